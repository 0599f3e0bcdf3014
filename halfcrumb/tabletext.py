"""Tables as they are read from texts."""

from halfcrumb.errors import NoText
from halfcrumb.figures import is_number
from halfcrumb.tables import Table


def read_stretch(word):
    """Read a stretch, width, a colon and worth."""
    width, colon, worth = word.partition(":")
    # Without a colon the worth is empty, so it is no number.
    if not is_number(width) or not is_number(worth):
        raise NoText("this is not written as a stretch")
    return (int(width), int(worth))


def read_table(text):
    """Read a table that is written by its stretches."""
    return Table([read_stretch(word) for word in text.split(" ")])
