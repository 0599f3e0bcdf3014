"""Honest hands: what a table replies, and what is told of a hand by tables."""

from halfcrumb.asks import NO_PIECE
from halfcrumb.errors import NoHands
from halfcrumb.figures import is_whole_number
from halfcrumb.fractions import fraction_of, is_less, times
from halfcrumb.spans import greater


def place_by(table, here, there, much):
    """Tell the place to which the worth from here is much, or there, where that is not reached."""
    place = table.cut(here, much, there)
    return there if place is None else place


def worths_of(table, pieces):
    """Tell what each piece is worth by a table."""
    return [table.worth(here, there) for here, there in pieces]


def greatest_of(worths):
    """Tell the greatest of one or more fractions."""
    most = worths[0]
    for worth in worths:
        most = greater(most, worth)
    return most


def reply_by(table, ask):
    """Tell the reply of a table to an ask."""
    word = ask[0]
    if word == "cut":
        here, there, upto, part = ask[2:]
        return place_by(table, here, there, times(part, table.worth(here, upto)))
    if word == "even":
        here, there, others = ask[2:]
        return place_by(table, here, there, greatest_of(worths_of(table, others)))
    worths = worths_of(table, ask[2])
    most = greatest_of(worths)
    if word == "trim" and worths.count(most) > 1:
        return NO_PIECE
    return worths.index(most)


def run_by(way, tables):
    """Answer a way to its end by a table for each hand; tell its shares."""
    if len(tables) != way.hands():
        raise NoHands("there is one table for each hand")
    while not way.ended():
        ask = way.due()
        way.answer(reply_by(tables[ask[1]], ask))
    return way.shares()


def check_hand(way, hand):
    """Refuse a hand that the way hasn't."""
    if not is_whole_number(hand) or not 0 <= hand < way.hands():
        raise NoHands("the way has no such hand")


def first_false(way, hand, table):
    """Tell the number in the log of the hand's first reply that is not the table's, or None."""
    check_hand(way, hand)
    for number, (ask, reply) in enumerate(way.log()):
        if ask[1] == hand and reply != reply_by(table, ask):
            return number
    return None


def honest(way, hand, table):
    """Tell whether all replies of the hand are the table's."""
    return first_false(way, hand, table) is None


def sorry_table(way, hand, tables):
    """Tell the number of the first table by which the hand has less than its part, or None."""
    check_hand(way, hand)
    own = way.shares()[hand]
    for number, table in enumerate(tables):
        if is_less(own.worth(table), fraction_of(table.total(), way.hands())):
            return number
    return None


def envied(way, hand, table):
    """Tell the hands whose shares are worth more by the table than the hand's own, rising."""
    check_hand(way, hand)
    worths = [share.worth(table) for share in way.shares()]
    return [other for other, worth in enumerate(worths) if is_less(worths[hand], worth)]
