"""The ends of several tables, between which all of them are even."""

from halfcrumb.fractions import is_less


def with_place(places, place):
    """Tell a rising list of places with one more; it is there once then."""
    ahead = [other for other in places if is_less(other, place)]
    behind = [other for other in places if is_less(place, other)]
    return [*ahead, place, *behind]


def all_ends(tables):
    """Tell all ends of some tables, each once, rising."""
    places = []
    for table in tables:
        for end in table.ends():
            places = with_place(places, end)
    return places


def all_cells(tables):
    """Tell the spans between neighbouring ends of some tables."""
    ends = all_ends(tables)
    return list(zip(ends, ends[1:]))
