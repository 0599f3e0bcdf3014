"""Whole pieces, one for each of two or three tables, of which no one envies another one."""

from halfcrumb.cells import all_ends
from halfcrumb.errors import NoHands, TooMany
from halfcrumb.fractions import fraction_of, is_less, minus
from halfcrumb.moving import till_nought
from halfcrumb.spans import BEGIN, END, greater

MOST_OF_THREE = 4
# For each piece the rates of both cuts at which it shrinks, while the two others grow alike.
RATES = ((-2, -1), (1, -1), (1, 2))


def worths_by(table, cuts):
    """Tell what the three pieces are worth; where the cuts went across one another, the middle one is below nought."""
    first = table.worth(BEGIN, cuts[0])
    second = table.worth(BEGIN, cuts[1])
    return [first, minus(second, first), minus((table.total(), 1), second)]


def liked_best(table, cuts):
    """Tell the numbers of the pieces that are worth the most."""
    worths = worths_by(table, cuts)
    most = greater(greater(worths[0], worths[1]), worths[2])
    return [piece for piece, worth in enumerate(worths) if worth == most]


def pairs_of(rivals, cuts):
    """Tell each pair of unlike pieces of which the one is liked best by the first rival, the other by the second."""
    some = liked_best(rivals[0], cuts)
    others = liked_best(rivals[1], cuts)
    return [(one, other) for one in some for other in others if one != other]


def leads_of(rivals, cuts, piece):
    """Tell by how much a piece is worth more than each other one, to both rivals."""
    leads = []
    for table in rivals:
        worths = worths_by(table, cuts)
        leads += [minus(worths[piece], worths[other]) for other in range(3) if other != piece]
    return leads


def two_pieces(one, other):
    """Tell a cut that halves the loaf for the one; the other has the piece that it likes."""
    place = one.cut(BEGIN, fraction_of(one.total(), 2))
    order = [1, 0] if is_less(other.worth(place, END), other.worth(BEGIN, place)) else [0, 1]
    return ([place], order)


def three_pieces(tables):
    """Tell two cuts and an order.

    The first hand cuts thirds. Where both rivals like the same piece best, it shrinks, while the others stay alike to
    the first hand, till one of the rivals likes another one as much: that one takes it, its rival the shrunk piece.
    """
    cutter = tables[0]
    rivals = tables[1:]
    cuts = [cutter.cut(BEGIN, fraction_of(cutter.total() * thirds, 3)) for thirds in (1, 2)]
    pairs = pairs_of(rivals, cuts)
    if pairs == []:
        piece = liked_best(rivals[0], cuts)[0]
        cuts = till_nought(
            cutter, all_ends(tables), cuts, RATES[piece], lambda now: leads_of(rivals, now, piece),
        )
        # The shrunk piece is not for the first hand.
        pairs = [pair for pair in pairs_of(rivals, cuts) if piece in pair]
    order = [0, 0, 0]
    first, second = pairs[0]
    order[first] = 1
    order[second] = 2
    return (cuts, order)


def whole_pieces(tables):
    """Tell cuts and an order of the hands, by which nobody likes another piece more than the own one."""
    if len(tables) not in (2, 3):
        raise NoHands("whole pieces are for two or three tables")
    if len(tables) == 2:
        return two_pieces(tables[0], tables[1])
    if max([len(table) for table in tables]) > MOST_OF_THREE:
        raise TooMany("one of three tables has more than four stretches")
    return three_pieces(tables)
