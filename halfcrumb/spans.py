"""Spans of the loaf: tuples (here, there) of fractions."""

from halfcrumb.errors import NoSpan
from halfcrumb.fractions import is_less

BEGIN = (0, 1)
END = (1, 1)


def check_span(here, there):
    """Refuse a span that does not lie on the loaf from the left to the right."""
    if is_less(here, BEGIN) or is_less(END, there) or is_less(there, here):
        raise NoSpan("a span goes from 0 or more to 1 or less, and not backwards")
