"""Asks, tuples (word, hand, ..), and the replies to them."""

from halfcrumb.figures import is_whole_number
from halfcrumb.fractions import fraction_text, is_fraction, is_less

# The reply to "trim" that is none of the three pieces.
NO_PIECE = 3


def is_legal(ask, reply):
    """Tell whether a reply, a thing of any kind, is legal to an ask."""
    if ask[0] in ("cut", "even"):
        here = ask[2]
        there = ask[3]
        return is_fraction(reply) and not is_less(reply, here) and not is_less(there, reply)
    many = len(ask[2])
    if ask[0] == "trim":
        # One number more, for none of the pieces.
        many += 1
    return is_whole_number(reply) and 0 <= reply < many


def is_same(thing, ask):
    """Tell whether a thing, of any kind, is just this ask, or this part of one; a truth in it is no number."""
    if isinstance(ask, tuple):
        if not isinstance(thing, tuple) or len(thing) != len(ask):
            return False
        return all([is_same(one, other) for one, other in zip(thing, ask)])
    return not isinstance(thing, bool) and thing == ask


def reply_text(reply):
    """Write a reply, a place or a number."""
    return fraction_text(reply) if isinstance(reply, tuple) else str(reply)
