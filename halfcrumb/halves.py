"""A span that is worth half of the loaf by two tables."""

from halfcrumb.cells import all_ends
from halfcrumb.fractions import fraction_of, is_less, minus
from halfcrumb.moving import till_nought
from halfcrumb.spans import BEGIN


def half_span(one, other):
    """Tell a span (here, there) whose worth is half of the total by each of two tables."""
    begin = [BEGIN, one.cut(BEGIN, fraction_of(one.total(), 2))]
    half = fraction_of(other.total(), 2)
    is_little = is_less(other.worth(begin[0], begin[1]), half)

    def lead_at(cuts):
        worth = other.worth(cuts[0], cuts[1])
        return [minus(half, worth) if is_little else minus(worth, half)]

    # The span stays worth half by the one table; at the end it is by the other what was outside at the begin.
    here, there = till_nought(one, all_ends([one, other]), begin, (1, 1), lead_at)
    return (here, there)
