"""Beads of up to three kinds, and the cuts that part them among two hands."""

from halfcrumb.errors import NoBeads, Odd
from halfcrumb.figures import is_whole_number

KINDS = "abc"
MOST_BEADS = 24


def wrong_at(text):
    """Tell the number of the first sign by which a text is no beads, or None where it is beads."""
    for at, sign in enumerate(text):
        if sign not in KINDS or at == MOST_BEADS:
            return at
    return None


def check_beads(text):
    """Refuse a text that is no beads."""
    at = wrong_at(text)
    if at is not None:
        raise NoBeads(at)


def is_cut(at, many):
    """Tell whether a cut of so many beads can lie behind that many of them."""
    return is_whole_number(at) and 1 <= at < many


def are_cuts(cuts, many):
    """Tell whether a list is cuts of so many beads."""
    if not all([is_cut(at, many) for at in cuts]):
        return False
    return all([one < other for one, other in zip(cuts, cuts[1:])])


def pieces_of(beads, cuts):
    """Tell the pieces into which cuts part the beads, one more than there are cuts."""
    return [beads[here:there] for here, there in zip([0, *cuts], [*cuts, len(beads)])]


def kinds_of(pieces, turn):
    """Tell how many of each kind the hand gets whose turn is first (0) or second (1)."""
    beads = "".join(pieces[turn::2])
    return [beads.count(kind) for kind in KINDS]


def parts_evenly(beads, cuts):
    """Tell whether cuts give both hands as many of each kind."""
    pieces = pieces_of(beads, cuts)
    return kinds_of(pieces, 0) == kinds_of(pieces, 1)


def with_one_more(lists, many):
    """Tell all cuts of so many beads that are one of these lists and a cut behind it."""
    return [[*cuts, at] for cuts in lists for at in range(max([0, *cuts]) + 1, many)]


def fewest_cuts(beads):
    """Tell cuts that part the beads evenly, as few as can be."""
    check_beads(beads)
    for kind in KINDS:
        if beads.count(kind) & 1:
            raise Odd(kind)
    lists = [[]]
    found = []
    # As many cuts as there are kinds are always enough, so this comes to an end.
    while found == []:
        found = [cuts for cuts in lists if parts_evenly(beads, cuts)]
        lists = with_one_more(lists, len(beads))
    return found[0]
