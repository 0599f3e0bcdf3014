"""What several tests have in common."""

from fractions import Fraction
from math import gcd

from halfcrumb.errors import NotEnded
from halfcrumb.halving import Halving
from halfcrumb.onecuts import OneCuts
from halfcrumb.shares import Share
from halfcrumb.tables import Table
from halfcrumb.threehands import ThreeHands
from halfcrumb.trimming import Trimming

NOUGHT = (0, 1)
ONE = (1, 1)
BIG = 10 ** 400 - 1
# Of each kind that may be handed in as a reply, none of which is legal to any ask.
NEVER = (
    None, True, False, "", "0", "1/2", "none", [], [0], [1, 2], [(1, 2)], (), (1,), (0,), (1, 2, 3), (1, 2, None),
    (None, None), ("1", "2"), ("1", 2), (1, "2"), (True, 2), (1, True), (False, True), (False, 1), (0, True), ((1, 2),),
    ((1,), 2), ((1, 2), (1, 2)), ([1], 2), (1, [2]), (2, 4), (50, 100), (0, 2), (0, -1), (-1, -2), (1, -2), (-1, 2),
    (1, 0), (0, 0), (3, 2), (2, 1), (-1, 1), -1, 4, 5, -BIG, BIG, (BIG, 1), (1, 0), (BIG, BIG), (BIG, 2 * BIG),
    (-BIG, BIG + 1), [[[[[[1]]]]]], ((((((1,),),),),),), (((((1, 2), 1), 1), 1), 1), ["cut", None, (1, [2, (True,)])],
)
# Each way, with each number of which it can be made.
MAKINGS = [
    (kind, number) for kind, numbers in (
        (OneCuts, (0, 1)), (Halving, (2, 3, 4)), (Trimming, (2, 3, 4)), (ThreeHands, (0, 1, 2)),
    ) for number in numbers
]


def stands(way):
    """All that is told of a way."""
    try:
        shares = [str(share) for share in way.shares()]
    except NotEnded as refusal:
        shares = ("not ended", refusal.many)
    return (way.due(), way.ended(), way.hands(), way.log(), way.asked(), len(way), str(way), shares)


def texts(way):
    """The text of each share."""
    return [str(share) for share in way.shares()]


def answered(way, replies):
    """The way, answered by these replies."""
    for reply in replies:
        way.answer(reply)
    return way


def place_of(number):
    """A Fraction as a tuple."""
    return (number.numerator, number.denominator)


def some_table(source, most=8):
    """Some table of at most so many stretches, often with worths 0 and with alike ones."""
    worths = [0]
    while not any(worths):
        worths = [
            source.choice((0, 0, 1, 2, 6, source.randrange(10 ** 9))) for stretch in range(source.randint(1, most))
        ]
    return Table([(source.choice((1, 1, 2, 3, source.randint(1, 999))), worth) for worth in worths])


def legal_reply(source, ask):
    """Some legal reply to an ask: often an end, or one of a few places, so that alike ones come."""
    if ask[0] == "trim":
        return source.randrange(4)
    if ask[0] == "choose":
        return source.randrange(len(ask[2]))
    here, there = Fraction(*ask[2]), Fraction(*ask[3])
    if source.random() < 0.3:
        return place_of(source.choice((here, there)))
    bottom = source.choice((2, 4, 12, 97, 10 ** 12 + 39))
    return place_of(here + (there - here) * Fraction(source.randrange(bottom + 1), bottom))


def run_at_random(source, way):
    """Answer a way to its end by any legal replies."""
    while way.due() is not None:
        way.answer(legal_reply(source, way.due()))
    return way


def follow(case, source, way, course):
    """Check a way, by some legal replies, against a course that yields asks, is sent replies and returns a list of
    spans for each hand; tell how many asks there were."""
    asks, reply = 0, None
    while True:
        try:
            ask = course.send(reply)
        except StopIteration as end:
            case.assertIsNone(way.due())
            case.assertEqual(way.shares(), [Share(spans) for spans in end.value])
            return asks
        case.assertEqual(way.due(), ask)
        reply = legal_reply(source, ask)
        way.answer(reply)
        asks += 1


def crumbs_once(shares):
    """Whether each crumb, but for single places, is in just one of the shares."""
    spans = sorted((Fraction(*here), Fraction(*there)) for share in shares for here, there in share.spans())
    ends = [Fraction(0)] + [there for here, there in spans]
    begins = [here for here, there in spans] + [Fraction(1)]
    return ends == begins


def is_place(thing):
    """Whether a thing is a tuple in lowest terms from 0 to 1."""
    return (
        type(thing) is tuple and len(thing) == 2 and all(type(part) is int for part in thing)
        and 0 <= thing[0] <= thing[1] and thing[1] >= 1 and gcd(*thing) == 1
    )
