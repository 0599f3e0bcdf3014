"""Point 34: the lookers."""

import itertools
import unittest
from fractions import Fraction
from random import Random

from halfcrumb.evenness import most_even
from halfcrumb.halves import half_span
from halfcrumb.halving import Halving
from halfcrumb.lookers import is_even, is_half, is_log, is_most, is_shared, is_whole
from halfcrumb.onecuts import OneCuts
from halfcrumb.shares import Share
from halfcrumb.tables import Table
from halfcrumb.tabletext import read_table
from halfcrumb.sharetext import read_share
from halfcrumb.threehands import ThreeHands
from halfcrumb.trimming import Trimming
from halfcrumb.watching import Watcher
from halfcrumb.whole import whole_pieces
from tests.common import BIG, MAKINGS, NEVER, NOUGHT, ONE, place_of, run_at_random, some_table, stands
from tests.test_beads import parted_evenly

HALF = (1, 2)
FAR = 10 ** 40 - 1
EVEN = read_table("1:1")
LATE = read_table("1:1 1:3")
EARLY = read_table("1:3 1:1")
EIGHT = Table([(1, 1)] * 8)


def read_shares(*texts):
    """Shares that are told by their texts."""
    return [read_share(text) for text in texts]


class IsShared(unittest.TestCase):
    def test_right(self):
        for texts in (
            ("0-1",), ("0-1/2", "1/2-1"), ("1/2-1", "0-1/2"), ("0-1/4 1/2-1", "1/4-1/2"), ("0-1", "none"),
            ("none", "none", "0-1/3 2/3-1", "1/3-2/3"), ("1/3-1/2", "0-1/3 3/4-1", "1/2-3/4"),
        ):
            self.assertIs(is_shared(read_shares(*texts)), True, texts)

    def test_a_crumb_in_no_share(self):
        for texts in (
            (), ("none",), ("none", "none"), ("0-1/2",), ("1/2-1",), ("0-1/2", "3/4-1"), ("1/8-1/2", "1/2-1"),
            ("0-1/2", "1/2-7/8"), ("0-1/4 1/2-1",), ("none", "0-1/3", "2/3-1"),
        ):
            self.assertIs(is_shared(read_shares(*texts)), False, texts)

    def test_a_crumb_in_two(self):
        for texts in (
            ("0-1", "0-1"), ("0-1/2", "1/4-1"), ("0-1/2", "1/2-1", "1/2-3/4"), ("0-1", "1/3-1/2"), ("0-1", "0-1/9"),
            ("0-1/2", "0-1/2", "1/2-1"), ("0-3/4", "3/4-1", "1/4-1/2"), ("0-1", "8/9-1"), ("1/4-1", "0-1/2"),
            ("0-1/2", "0-1"), ("0-1", "0-1/2"),
        ):
            for order in itertools.permutations(texts):
                self.assertIs(is_shared(read_shares(*order)), False, order)

    def test_as_long_as_the_loaf_but_not_it(self):
        self.assertIs(is_shared(read_shares("0-1/2", "0-1/2")), False)
        self.assertIs(is_shared(read_shares("0-3/4", "1/2-3/4")), False)

    def test_many_spans(self):
        source = Random(341)
        inner = {Fraction(source.randrange(1, FAR), FAR) for cut in range(599)}
        spans = list(itertools.pairwise([NOUGHT, *[place_of(place) for place in sorted(inner)], ONE]))
        shares = [Share(spans[at::60]) for at in range(60)]
        self.assertIs(is_shared(shares), True)
        self.assertIs(is_shared(shares[:-1]), False)
        self.assertIs(is_shared([*shares[:-1], shares[0]]), False)

    def test_the_shares_of_ways(self):
        source = Random(342)
        for kind, number in MAKINGS:
            shares = run_at_random(source, kind(number)).shares()
            handed = list(shares)
            self.assertIs(is_shared(shares=handed), True)
            self.assertEqual(handed, shares)
            self.assertIs(is_shared([*shares, Share([(NOUGHT, (1, FAR))])]), False)


class IsHalf(unittest.TestCase):
    def test_right(self):
        for one, other, here, there in (
            (EVEN, EVEN, NOUGHT, HALF), (EVEN, EVEN, HALF, ONE), (EVEN, EVEN, (1, 4), (3, 4)),
            (LATE, EARLY, (1, 3), (5, 6)), (LATE, LATE, NOUGHT, (2, 3)), (LATE, LATE, (2, 3), ONE),
        ):
            right = 2 * Fraction(*one.worth(here, there)) == one.total() and (
                2 * Fraction(*other.worth(here, there)) == other.total()
            )
            self.assertIs(is_half(one, other, here, there), right)
        self.assertIs(is_half(EVEN, EVEN, (1, 4), (3, 4)), True)
        self.assertIs(is_half(one=LATE, other=LATE, here=(2, 3), there=ONE), True)

    def test_what_half_span_tells(self):
        source = Random(343)
        for row in range(60):
            one, other = some_table(source), some_table(source)
            here, there = half_span(one, other)
            self.assertIs(is_half(one, other, here, there), True)

    def test_one_table_not_halved(self):
        for here, there in ((NOUGHT, HALF), (HALF, ONE), (NOUGHT, (2, 3)), ((2, 3), ONE)):
            self.assertIs(is_half(EVEN, LATE, here, there), False)
            self.assertIs(is_half(LATE, EVEN, here, there), False)

    def test_no_table_halved(self):
        for here, there in ((NOUGHT, ONE), (HALF, HALF), (NOUGHT, NOUGHT), (NOUGHT, (1, 3)), ((FAR - 1, FAR), ONE)):
            self.assertIs(is_half(EVEN, LATE, here, there), False)

    def test_places_exchanged(self):
        for here, there in ((HALF, NOUGHT), (ONE, HALF), ((3, 4), (1, 4))):
            self.assertIs(is_half(EVEN, EVEN, here, there), False)

    def test_outside(self):
        gaps = read_table("1:0 1:1 1:0")
        self.assertIs(is_half(gaps, gaps, NOUGHT, HALF), True)
        for here, there in (
            ((-1, 1), HALF), ((-1, FAR), HALF), (HALF, (2, 1)), (HALF, (FAR + 1, FAR)), ((-FAR, 1), (FAR, 1)),
            ((2, 1), (3, 1)), ((-3, 1), (-2, 1)), ((2, 1), HALF), (HALF, (-1, 1)), ((-1, 1), (2, 1)),
        ):
            self.assertIs(is_half(gaps, gaps, here, there), False)
            self.assertIs(is_half(EVEN, EVEN, here, there), False)


class IsWhole(unittest.TestCase):
    def test_right(self):
        for tables, cuts, order in (
            ([EVEN, EVEN], [HALF], [0, 1]), ([EVEN, EVEN], [HALF], [1, 0]), ([EVEN, LATE], [HALF], [0, 1]),
            ([EARLY, LATE], [(2, 5)], [0, 1]), ([EVEN, EVEN, EVEN], [(1, 3), (2, 3)], [2, 0, 1]),
            ([EARLY, LATE], [HALF], [0, 1]),
        ):
            self.assertIs(is_whole(tables, cuts, order), True, (cuts, order))
        self.assertIs(is_whole(order=[1, 0], cuts=[HALF], tables=[LATE, EARLY]), True)

    def test_what_whole_pieces_tells(self):
        source = Random(344)
        for row in range(60):
            tables = [some_table(source, 4) for hand in range(2 + row % 2)]
            handed = list(tables)
            cuts, order = whole_pieces(tables)
            self.assertIs(is_whole(handed, cuts, order), True)
            self.assertEqual(handed, tables)

    def test_a_piece_that_is_envied(self):
        for tables, cuts, order in (
            ([EVEN, LATE], [HALF], [1, 0]), ([LATE, EVEN], [HALF], [0, 1]), ([EVEN, EVEN], [(1, 3)], [0, 1]),
            ([EVEN, EVEN], [(FAR // 2, FAR)], [0, 1]), ([EVEN] * 3, [(1, 3), (3, 4)], [0, 1, 2]),
            ([EVEN, EVEN, LATE], [(1, 3), (2, 3)], [2, 0, 1]), ([EVEN, EVEN, LATE], [(1, 3), (2, 3)], [0, 2, 1]),
        ):
            self.assertIs(is_whole(tables, cuts, order), False, (cuts, order))
        self.assertIs(is_whole([EVEN, EVEN, LATE], [(1, 3), (2, 3)], [0, 1, 2]), True)

    def test_another_count_of_tables(self):
        self.assertIs(is_whole([], [], []), False)
        self.assertIs(is_whole([EVEN], [], [0]), False)
        self.assertIs(is_whole([EVEN] * 4, [(1, 4), HALF, (3, 4)], [0, 1, 2, 3]), False)
        self.assertIs(is_whole([EVEN] * 5, [(1, 5), (2, 5), (3, 5), (4, 5)], [0, 1, 2, 3, 4]), False)

    def test_another_count_of_cuts(self):
        for cuts in ([], [HALF, (3, 4)], [(1, 3), (2, 3)], [HALF] * 60):
            self.assertIs(is_whole([EVEN, EVEN], cuts, [0, 1]), False)
        for cuts in ([], [HALF], [(1, 4), HALF, (3, 4)], [(1, 3), (2, 3), ONE]):
            self.assertIs(is_whole([EVEN] * 3, cuts, [0, 1, 2]), False)

    def test_cuts_not_rising_alike_at_an_end_or_outside(self):
        # To these tables an empty piece is worth as much as another one.
        sides = [read_table("1:1 1:0 1:1"), read_table("1:1 1:0 1:1"), read_table("1:1 1:0 1:1")]
        middle = read_table("1:0 1:1 1:0")
        for cuts in (
            [(2, 3), (1, 3)], [HALF, HALF], [NOUGHT, HALF], [HALF, ONE], [NOUGHT, ONE], [(-1, 2), HALF],
            [HALF, (3, 2)], [(-FAR, 1), (FAR, 1)], [(2, 1), (3, 1)], [(1, 3), (1, 3)], [ONE, NOUGHT],
        ):
            for order in itertools.permutations(range(3)):
                self.assertIs(is_whole([EVEN] * 3, cuts, list(order)), False)
                self.assertIs(is_whole(sides, cuts, list(order)), False)
                self.assertIs(is_whole([middle, *sides[:2]], cuts, list(order)), False)
        for cut in (NOUGHT, ONE, (-1, 1), (2, 1), (-FAR, 1), (FAR, 2)):
            for order in ([0, 1], [1, 0]):
                self.assertIs(is_whole([EVEN, EVEN], [cut], order), False)

    def test_alike_cuts_that_nobody_would_mind(self):
        # Each likes a piece best that is not the empty one in the middle, but one of them alone can have it.
        tables = [read_table("1:1 1:0"), read_table("1:0 1:1")]
        self.assertIs(is_whole(tables, [HALF], [0, 1]), True)
        self.assertIs(is_whole([*tables, EVEN], [HALF, HALF], [0, 2, 1]), False)

    def test_another_order(self):
        for order in (
            [], [0], [0, 0], [1, 1], [0, 2], [2, 1], [-1, 0], [0, -1], [1, 2], [0, 1, 0], [0, 1, 2], [-1, -2],
            [FAR, 0], [0, FAR], [0, 1] * 30, [True, False], [0, True],
        ):
            self.assertIs(is_whole([EVEN, EVEN], [HALF], order), False, order)
        for order in ([0, 1], [0, 1, 1], [0, 1, 3], [0, 1, 2, 3], [1, 2, 3], [-1, 0, 1], [0, 2, 2]):
            self.assertIs(is_whole([EVEN] * 3, [(1, 3), (2, 3)], order), False, order)

    def test_more_than_four_stretches(self):
        self.assertIs(is_whole([EIGHT] * 3, [(1, 3), (2, 3)], [1, 2, 0]), True)
        self.assertIs(is_whole([EIGHT, EVEN, EIGHT], [(1, 3), (2, 3)], [1, 2, 0]), True)
        self.assertIs(is_whole([EIGHT] * 3, [(1, 3), (3, 4)], [1, 2, 0]), False)
        self.assertIs(is_whole([EIGHT] * 2, [HALF], [1, 0]), True)


class NoFractions(unittest.TestCase):
    def test_are_no_places_and_no_weights(self):
        for thing in ((2, 4), (-1, -2), [1, 2], (1, 2, 3), (1,), None, "1/2", 0, (1, 0), (True, 2)):
            self.assertIs(is_half(EVEN, EVEN, NOUGHT, thing), False)
            self.assertIs(is_half(EVEN, EVEN, thing, ONE), False)
            self.assertIs(is_whole([EVEN, EVEN], [thing], [0, 1]), False)
            self.assertIs(is_most([EVEN, EVEN], HALF, read_shares("0-1/2", "1/2-1"), [HALF, thing]), False)
            self.assertIs(is_most([EVEN, EVEN], thing, read_shares("0-1/2", "1/2-1"), [HALF, HALF]), False)
        self.assertIs(is_most([EVEN, EVEN], HALF, read_shares("0-1/2", "1/2-1"), [HALF, HALF]), True)


class IsEven(unittest.TestCase):
    def test_right_and_not_even(self):
        for beads in ("", "aa", "aabb", "abcabc", "aabbcc", "aab", "a", "abcc"):
            for many in range(len(beads)):
                for cuts in itertools.combinations(range(1, len(beads)), many):
                    self.assertIs(is_even(beads, list(cuts)), parted_evenly(beads, cuts), (beads, cuts))
        self.assertIs(is_even("", []), True)
        self.assertIs(is_even("a", []), False)
        self.assertIs(is_even("a" * 24, [12]), True)
        self.assertIs(is_even(cuts=[1, 3], beads="aabb"), True)

    def test_more_cuts_than_need_be(self):
        self.assertIs(is_even("aaaa", [1, 3]), True)
        self.assertIs(is_even("aaaa", [1, 2, 3]), True)

    def test_no_beads(self):
        for text, cuts in (
            ("dd", [1]), ("a a", [1]), ("aada", [2]), ("a" * 26, [13]), ("ab" * 13, [13]), ("AA", [1]), (" ", []),
            ("aabbdd", [1, 3, 5]), ("a" * 400, [200]), ("~", []), ("a" * 28, [14]),
        ):
            self.assertIs(is_even(text, cuts), False, text)

    def test_no_cuts(self):
        for cuts in (
            [3, 1], [1, 1], [1, 1, 3], [1, 3, 3], [0, 1, 3], [1, 3, 4], [-1, 1, 3], [1, 3, 5], [0], [4], [-FAR], [FAR],
            [0, 4], [1, 3, 1], [2, 1, 3], [1, 2, 3, 2], [3, 2, 1], [1, FAR], [True, 3],
        ):
            self.assertIs(is_even("aabb", cuts), False, cuts)
        for cuts in ([0], [1], [-1], [0, 0], [FAR]):
            self.assertIs(is_even("", cuts), False, cuts)
        # By these the beads would be parted evenly, if they were cuts.
        for beads, cuts in (("aaaa", [1, 1, 2]), ("aaaa", [2, 3, 3]), ("aa", [1, 1, 1]), ("aaaa", [0, 0, 2])):
            self.assertTrue(parted_evenly(beads, cuts))
            self.assertIs(is_even(beads, cuts), False, cuts)
        self.assertIs(is_even("aa", [1] * 60), False)
        self.assertIs(is_even("aa", [1] * 3), False)


class IsMost(unittest.TestCase):
    def setUp(self):
        self.tables = [LATE, EARLY]
        self.part = (3, 4)
        self.shares = read_shares("1/2-1", "0-1/2")
        self.weights = [HALF, HALF]

    def told(self, **other):
        handed = {"tables": self.tables, "part": self.part, "shares": self.shares, "weights": self.weights, **other}
        return is_most(**handed)

    def test_right(self):
        self.assertIs(self.told(), True)
        self.assertIs(is_most(self.tables, self.part, self.shares, self.weights), True)
        quarters = read_shares("0-1/4", "1/4-1/2", "1/2-3/4", "3/4-1")
        self.assertIs(is_most([EVEN] * 4, (1, 4), quarters, [(1, 4)] * 4), True)
        tables = [read_table("1:1 1:0"), EVEN]
        self.assertIs(is_most(tables, (2, 3), read_shares("0-1/3", "1/3-1"), [(1, 3), (2, 3)]), True)

    def test_what_most_even_tells(self):
        source = Random(345)
        for row in range(40):
            tables = [some_table(source, 2) for hand in range(source.randint(2, 4))]
            handed = list(tables)
            self.assertIs(is_most(handed, *most_even(tables)), True)
            self.assertEqual(handed, tables)

    def test_another_part(self):
        for part in (
            (3, 5), (4, 5), HALF, ONE, NOUGHT, (-3, 4), (3 * FAR + 1, 4 * FAR), (3 * FAR - 1, 4 * FAR), (FAR, 1),
            (-FAR, 1),
        ):
            self.assertIs(self.told(part=part), False, part)

    def test_weights(self):
        for weights in (
            [ONE, NOUGHT], [NOUGHT, ONE], [(4, 5), (1, 5)], [(3, 2), (-1, 2)], [HALF, (1, 3)], [ONE, ONE],
            [NOUGHT, NOUGHT], [(-1, 2), (-1, 2)], [(FAR, 1), (1 - FAR, 1)], [(-1, 2), (3, 2)],
        ):
            self.assertIs(self.told(weights=weights), False, weights)

    def test_a_weight_below_nought_with_the_right_sums(self):
        # Two hands that want the left alone, and two weights of theirs that cancel out; all but the sign would do.
        tables = [EVEN, EVEN, EVEN]
        shares = read_shares("0-1/3", "1/3-2/3", "2/3-1")
        self.assertIs(is_most(tables, (1, 3), shares, [(1, 3)] * 3), True)
        for weights in ([(2, 3), (2, 3), (-1, 3)], [ONE, ONE, (-1, 1)]):
            self.assertIs(is_most(tables, (2, 3), shares, weights), False)
            self.assertIs(is_most(tables, (1, 3), shares, weights), False)
        sides = [read_table("1:1 1:0"), read_table("1:0 1:1"), EVEN]
        for weights in ([(3, 4), (3, 4), (-1, 2)],):
            self.assertIs(is_most(sides, (3, 2), read_shares("0-1/2", "1/2-1", "none"), weights), False)

    def test_a_sum_that_is_not_one(self):
        # The greatest weighted parts have just the told part as their sum, and the shares give it.
        self.assertIs(self.told(part=HALF, weights=[(1, 3), (1, 3)]), False)
        self.assertIs(self.told(part=NOUGHT, weights=[NOUGHT, NOUGHT]), False)

    def test_shares_that_are_not_the_loaf(self):
        for texts in (
            ("0-1", "0-1"), ("1/2-1", "0-3/4"), ("1/2-1", "0-1/2 3/4-1"), ("none", "none"), ("0-1", "0-1/2"),
            ("1/4-1", "0-1/2"),
        ):
            self.assertIs(self.told(shares=read_shares(*texts)), False, texts)
        tables = [read_table("1:1 1:0 1:1"), read_table("1:1 1:0 1:1")]
        self.assertIs(is_most(tables, HALF, read_shares("0-1/3", "2/3-1"), [HALF, HALF]), False)
        self.assertIs(is_most(tables, HALF, read_shares("0-1/3", "1/3-1"), [HALF, HALF]), True)
        self.assertIs(is_most(tables, HALF, read_shares("0-1/2", "1/3-1"), [HALF, HALF]), False)

    def test_a_share_that_is_worth_less(self):
        for texts in (("0-1/2", "1/2-1"), ("3/8-1", "0-3/8"), ("0-1", "none"), ("9/16-1", "0-9/16")):
            self.assertIs(self.told(shares=read_shares(*texts)), False, texts)

    def test_another_count(self):
        for shares in ([], self.shares[:1], [*self.shares, Share([])], read_shares("0-1"), [Share([])] * 60):
            self.assertIs(self.told(shares=shares), False)
        for weights in ([], [ONE], [HALF, HALF, NOUGHT], [HALF], [NOUGHT] * 60):
            self.assertIs(self.told(weights=weights), False)
        self.assertIs(self.told(tables=[]), False)
        self.assertIs(self.told(tables=[LATE, EARLY, EVEN]), False)

    def test_one_and_five_tables(self):
        self.assertIs(is_most([], NOUGHT, [], []), False)
        self.assertIs(is_most([EVEN], ONE, read_shares("0-1"), [ONE]), False)
        fifths = read_shares("0-1/5", "1/5-2/5", "2/5-3/5", "3/5-4/5", "4/5-1")
        self.assertIs(is_most([EVEN] * 5, (1, 5), fifths, [(1, 5)] * 5), False)
        self.assertIs(is_most([EVEN] * 60, ONE, [], []), False)

    def test_more_cells_than_most_even_takes(self):
        quarters = read_shares("0-1/4", "1/4-1/2", "1/2-3/4", "3/4-1")
        self.assertIs(is_most([EIGHT] * 4, (1, 4), quarters, [(1, 4)] * 4), True)
        apart = [Table([(1 + at * hand, 1 + at * hand) for at in range(8)]) for hand in range(4)]
        self.assertIs(is_most(apart, (1, 4), quarters, [(1, 4)] * 4), True)
        self.assertIs(is_most(apart, (1, 5), quarters, [(1, 4)] * 4), False)


class IsLog(unittest.TestCase):
    def logs(self):
        """Each way, ended by some replies, several times, with its log."""
        source = Random(346)
        for kind, number in MAKINGS:
            for row in range(4):
                way = run_at_random(source, kind(number))
                yield kind, number, way.log()

    def test_right_and_each_beginning(self):
        for kind, number, log in self.logs():
            for many in range(len(log) + 1):
                self.assertIs(is_log(kind(number), log[:many]), True)
                self.assertIs(is_log(log=log[:many], way=kind(number)), True)

    def test_the_ways_own_replies_have_no_part_in_it(self):
        source = Random(347)
        for kind, number, log in self.logs():
            way = run_at_random(source, kind(number))
            self.assertIs(is_log(way, log), True)
            self.assertIs(is_log(way, log[:1]), True)
            self.assertIs(is_log(way, []), True)

    def test_another_number_or_class(self):
        for kind, number, log in self.logs():
            for other, making in MAKINGS:
                if (other, making) != (kind, number) and not {kind, other} <= {Halving, Trimming}:
                    self.assertIs(is_log(other(making), log), False, (log, other, making))

    def test_the_log_of_another_way_that_asks_the_same(self):
        same = [(("cut", 0, NOUGHT, ONE, ONE, HALF), ONE), (("cut", 1, NOUGHT, ONE, ONE, HALF), (2, 3))]
        for way, told in (
            (Halving(2), True), (Halving(4), True), (Trimming(2), True), (Halving(3), False), (Trimming(3), False),
            (Trimming(4), False), (OneCuts(), False), (ThreeHands(), False),
        ):
            self.assertIs(is_log(way, same), told)
        same[0] = (same[0][0], (3, 4))
        self.assertIs(is_log(Halving(2), same), True)
        self.assertIs(is_log(Trimming(2), same), False)
        third = (("cut", 2, NOUGHT, ONE, ONE, HALF), (2, 3))
        self.assertIs(is_log(Halving(2), [*same, third]), False)
        self.assertIs(is_log(Halving(4), [*same, third]), True)

    def test_more_than_can_stand(self):
        for kind, number, log in self.logs():
            self.assertIs(is_log(kind(number), [*log, log[-1]]), False)
            self.assertIs(is_log(kind(number), log * 5), False)
            self.assertIs(is_log(kind(number), [*log, (None, None)]), False)

    def test_one_left_out_or_out_of_order(self):
        for kind, number, log in self.logs():
            for at in range(len(log) - 1):
                self.assertIs(is_log(kind(number), log[:at] + log[at + 1:]), False)
            self.assertIs(is_log(kind(number), log[::-1]), False)

    def otherwise(self, thing):
        """A thing, made of whole numbers, texts and tuples, put otherwise in each of its parts."""
        if isinstance(thing, tuple):
            yield list(thing)
            yield (*thing, None)
            yield thing[:-1]
            for at, part in enumerate(thing):
                for other in self.otherwise(part):
                    yield (*thing[:at], other, *thing[at + 1:])
        elif isinstance(thing, str):
            yield thing + " "
            yield "cut" if thing != "cut" else "even"
            yield None
        else:
            if thing in (0, 1):
                yield bool(thing)
            yield thing + 1000
            yield str(thing)
            yield [thing]

    def test_an_ask_put_otherwise(self):
        for kind, number, log in self.logs():
            for at, (ask, reply) in enumerate(log):
                for other in (*self.otherwise(ask), None, 0, True, "cut", [], ()):
                    self.assertIs(is_log(kind(number), [*log[:at], (other, reply), *log[at + 1:]]), False, other)

    def test_a_reply_put_otherwise(self):
        for kind, number, log in self.logs():
            for at, (ask, reply) in enumerate(log):
                others = [*NEVER, [reply], (reply,), str(reply)]
                if isinstance(reply, tuple):
                    top, bottom = reply
                    others += [list(reply), (top * 2, bottom * 2), (-top, -bottom), (*reply, None), top // bottom]
                    others += [(bool(top), bottom)] * (top < 2) + [(top, True)] * (bottom == 1)
                else:
                    others += [(reply, 1), reply == 1, reply + 4]
                for other in others:
                    self.assertIs(is_log(kind(number), [*log[:at], (ask, other), *log[at + 1:]]), False, other)
                    self.assertIs(is_log(kind(number), [*log[:at], (ask, other)]), False, other)

    def test_an_ask_that_another_reply_would_lead_to(self):
        log = [(("cut", 0, NOUGHT, ONE, ONE, HALF), (3, 8)), (("choose", 1, ((NOUGHT, (3, 8)), ((3, 8), ONE))), 1)]
        self.assertIs(is_log(OneCuts(), log), True)
        log[0] = (log[0][0], (1, 8))
        self.assertIs(is_log(OneCuts(), log), False)

    def test_a_reply_just_outside(self):
        ask = ("cut", 0, NOUGHT, ONE, ONE, HALF)
        for reply in ((-1, BIG), (BIG + 1, BIG), (2, 1)):
            self.assertIs(is_log(OneCuts(), [(ask, reply)]), False)
        for reply in (NOUGHT, ONE, (1, BIG), (BIG - 1, BIG)):
            self.assertIs(is_log(OneCuts(), [(ask, reply)]), True)

    def test_no_pairs(self):
        for kind, number, log in self.logs():
            self.assertIs(is_log(kind(number), [list(pair) for pair in log]), False)
            self.assertIs(is_log(kind(number), [(*pair, None) for pair in log]), False)
            self.assertIs(is_log(kind(number), [pair[:1] for pair in log]), False)

    def test_nothing_is_done_on_the_way(self):
        for kind, number, log in self.logs():
            way = kind(number)
            watcher = Watcher()
            watcher.watch(way, "w")
            way.answer(ONE)
            way.answer(way.due()[2] if way.due()[0] == "cut" else 0)
            taken = way.back()
            watcher.heard()
            before = stands(way)
            handed = list(log)
            is_log(way, handed)
            is_log(way, [*handed, (None, None)])
            self.assertEqual((stands(way), watcher.heard(), handed), (before, [], log))
            self.assertEqual(way.again(), taken)

    def test_the_way_of_a_log_of_its_own(self):
        way = run_at_random(Random(348), ThreeHands(1))
        self.assertIs(is_log(way, way.log()), True)


if __name__ == "__main__":
    unittest.main()
