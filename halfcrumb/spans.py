"""Spans of the loaf: tuples (here, there) of fractions.

A list of spans is told where it rises, no span in it is empty and none touches another.
"""

from halfcrumb.errors import NoSpan
from halfcrumb.fractions import is_less

BEGIN = (0, 1)
END = (1, 1)


def is_span(here, there):
    """Tell whether a span lies on the loaf from the left to the right."""
    return not is_less(here, BEGIN) and not is_less(END, there) and not is_less(there, here)


def check_span(here, there):
    """Refuse a span that does not lie on the loaf from the left to the right."""
    if not is_span(here, there):
        raise NoSpan("a span goes from 0 or more to 1 or less, and not backwards")


def lesser(one, other):
    """Tell the lesser of two fractions."""
    return other if is_less(other, one) else one


def greater(one, other):
    """Tell the greater of two fractions."""
    return other if is_less(one, other) else one


def with_span(spans, here, there):
    """Tell the told spans with the one from here to there, which is not empty, joined to them."""
    ahead = []
    behind = []
    begin = here
    end = there
    for first, last in spans:
        if is_less(last, here):
            ahead.append((first, last))
        elif is_less(there, first):
            behind.append((first, last))
        else:
            begin = lesser(begin, first)
            end = greater(end, last)
    return [*ahead, (begin, end), *behind]


def told_spans(spans):
    """Tell the few spans that hold just the crumbs of these, which may be any that lie on the loaf."""
    told = []
    for here, there in spans:
        check_span(here, there)
        if is_less(here, there):
            told = with_span(told, here, there)
    return told


def gaps_of(spans):
    """Tell what of the loaf the told spans leave; the first and the last gap may be empty."""
    gaps = []
    here = BEGIN
    for first, last in spans:
        gaps.append((here, first))
        here = last
    return [*gaps, (here, END)]


def common_spans(some, others):
    """Tell what two lists of spans have in common, without what is empty."""
    common = []
    for here, there in some:
        for first, last in others:
            begin = greater(here, first)
            end = lesser(there, last)
            if is_less(begin, end):
                common.append((begin, end))
    return common
