"""Lookers: whether what was told, or what anybody says, is right. They refuse nothing."""

from halfcrumb.asks import is_legal, is_same
from halfcrumb.beads import are_cuts, parts_evenly, wrong_at
from halfcrumb.evenness import may_share, part_at_most
from halfcrumb.figures import are_whole_numbers
from halfcrumb.fractions import are_fractions, is_fraction, is_less, sum_of, times
from halfcrumb.honest import greatest_of, worths_of
from halfcrumb.spans import BEGIN, END, is_span


def is_shared(shares):
    """Tell whether each crumb, but for single places, is in just one share."""
    spans = []
    for share in shares:
        spans += share.spans()
    # Where each crumb is in one span, one leads to the next by the place at which both meet.
    ends = {here: there for here, there in spans}
    place = BEGIN
    steps = 0
    while place in ends:
        place = ends[place]
        steps += 1
    return place == END and steps == len(spans)


def is_halved(table, here, there):
    """Tell whether a span of the loaf is worth half of the table's total."""
    return times(table.worth(here, there), (2, 1)) == (table.total(), 1)


def is_half(one, other, here, there):
    """Tell whether these are a span of the loaf that is worth half by both tables."""
    if not are_fractions([here, there]) or not is_span(here, there):
        return False
    return is_halved(one, here, there) and is_halved(other, here, there)


def likes_own(table, pieces, own):
    """Tell whether no piece is worth more by the table than the one of that number."""
    worths = worths_of(table, pieces)
    return worths[own] == greatest_of(worths)


def is_whole(tables, cuts, order):
    """Tell whether these cuts and this order give each hand a piece, none of which is envied."""
    many = len(tables)
    if many not in (2, 3) or len(cuts) != many - 1:
        return False
    if not are_fractions(cuts) or not are_whole_numbers(order) or sorted(order) != list(range(many)):
        return False
    places = [BEGIN, *cuts, END]
    pieces = list(zip(places, places[1:]))
    if not all([is_less(here, there) for here, there in pieces]):
        return False
    return all([likes_own(tables[hand], pieces, own) for own, hand in enumerate(order)])


def is_even(beads, cuts):
    """Tell whether a text is beads, and these are cuts that part them evenly."""
    return wrong_at(beads) is None and are_cuts(cuts, len(beads)) and parts_evenly(beads, cuts)


def are_weights(weights):
    """Tell whether a list is fractions, none below nought, whose sum is 1."""
    if not are_fractions(weights) or any([top < 0 for top, bottom in weights]):
        return False
    return sum_of(weights) == (1, 1)


def has_part(table, part, share):
    """Tell whether a share is worth at least that part of the table's total."""
    return not is_less(share.worth(table), times(part, (table.total(), 1)))


def is_most(tables, part, shares, weights):
    """Tell whether these shares give the part to each hand, and these weights show that there is no more."""
    if not may_share(tables) or len(shares) != len(tables) or len(weights) != len(tables):
        return False
    if not is_fraction(part) or not are_weights(weights) or part_at_most(tables, weights) != part:
        return False
    return is_shared(shares) and all([has_part(table, part, share) for table, share in zip(tables, shares)])


def is_log(way, log):
    """Tell whether a way of the same making can have this log; the way itself has no part in it."""
    other = way.fresh()
    for pair in log:
        due = other.due()
        # A list of two things is no pair.
        if due is None or not isinstance(pair, tuple) or len(pair) != 2:
            return False
        ask, reply = pair
        if not is_same(ask, due) or not is_legal(due, reply):
            return False
        other.answer(reply)
    return True
