"""Whole numbers, and how they are written by figures."""

FIGURES = "0123456789"
MOST_FIGURES = 40


def is_whole_number(thing):
    """Tell whether a thing, of any kind, is a whole number; a truth is none."""
    return isinstance(thing, int) and not isinstance(thing, bool)


def are_whole_numbers(things):
    """Tell whether all things of a list are whole numbers."""
    return all([is_whole_number(thing) for thing in things])


def is_number(text):
    """Tell whether the text is one to forty figures without a needless nought ahead."""
    if not 1 <= len(text) <= MOST_FIGURES:
        return False
    if len(text) > 1 and text[0] == "0":
        return False
    return all([sign in FIGURES for sign in text])
