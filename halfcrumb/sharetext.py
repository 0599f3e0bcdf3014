"""Shares as they are read from texts."""

from halfcrumb.errors import NoSpan, NoText
from halfcrumb.fractions import read_fraction
from halfcrumb.shares import Share


def read_span(word):
    """Read a span: here, a stroke and there."""
    here, stroke, there = word.partition("-")
    # Without a stroke there is no text behind it, which is no fraction.
    return (read_fraction(here), read_fraction(there))


def read_share(text):
    """Read a share that is written just as its text is."""
    if text == "none":
        return Share([])
    try:
        share = Share([read_span(word) for word in text.split(" ")])
    except NoSpan:
        raise NoText("a span of this text does not lie on the loaf") from None
    # Writing it again shows spans that are empty, that touch or that don't rise.
    if str(share) != text:
        raise NoText("this is not how the share is written")
    return share
