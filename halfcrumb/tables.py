"""Tables: what each stretch of the loaf is worth to a hand."""

from halfcrumb.errors import NoTable, NoWorth
from halfcrumb.fractions import fraction_of, is_less, minus, over, plus, times
from halfcrumb.spans import BEGIN, END, check_span

MOST_STRETCHES = 8
MOST_WIDTH = 999
MOST_WORTH = 999999999


def is_table(stretches):
    """Tell whether a table can be made of these stretches."""
    if not 1 <= len(stretches) <= MOST_STRETCHES:
        return False
    widths = [width for width, worth in stretches]
    worths = [worth for width, worth in stretches]
    if min(widths) < 1 or max(widths) > MOST_WIDTH:
        return False
    return min(worths) >= 0 and 0 < max(worths) <= MOST_WORTH


class Table:
    """Stretches (width, worth) from the left; the worth of each lies evenly on it."""

    def __init__(self, stretches):
        if not is_table(stretches):
            raise NoTable("these stretches make no table")
        self.rows = [(width, worth) for width, worth in stretches]
        self.breadth = sum([width for width, worth in stretches])

    def stretches(self):
        """Tell the stretches, tuples (width, worth)."""
        return list(self.rows)

    def total(self):
        """Tell the sum of all worths."""
        return sum([worth for width, worth in self.rows])

    def ends(self):
        """Tell the places at which stretches begin and end."""
        past = 0
        places = [BEGIN]
        for width, worth in self.rows:
            past += width
            places.append(fraction_of(past, self.breadth))
        return places

    def worth(self, here=None, there=None):
        """Tell the worth from here to there, from 0 and to 1 where they are None."""
        first = BEGIN if here is None else here
        last = END if there is None else there
        check_span(first, last)
        return minus(self.worth_ahead(last), self.worth_ahead(first))

    def cut(self, here, much, last=None):
        """Tell the least place from here to last to which the worth from here is much, or None."""
        limit = END if last is None else last
        check_span(here, limit)
        if much[0] < 0:
            raise NoWorth("no worth is below nought")
        if is_less(self.worth(here, limit), much):
            return None
        if much[0] == 0:
            # Of all places with this worth ahead, those to the left of here don't count.
            return here
        return self.reached(plus(self.worth_ahead(here), much))

    def worth_ahead(self, place):
        """Tell the worth from 0 to a place."""
        top, bottom = place
        # How far the place lies behind the begin of a stretch, in widths times bottom.
        reach = top * self.breadth
        ahead = (0, 1)
        for width, worth in self.rows:
            length = width * bottom
            taken = min(max(reach, 0), length)
            ahead = plus(ahead, fraction_of(worth * taken, length))
            reach -= length
        return ahead

    def reached(self, goal):
        """Tell the least place to which the worth from 0 is the goal, above nought, at most the total."""
        at = 0
        past = 0
        left = goal
        while is_less((self.rows[at][1], 1), left):
            left = minus(left, (self.rows[at][1], 1))
            past += self.rows[at][0]
            at += 1
        width, worth = self.rows[at]
        within = times(left, fraction_of(width, worth))
        return over(plus((past, 1), within), (self.breadth, 1))

    def __len__(self):
        return len(self.rows)

    def __eq__(self, other):
        return isinstance(other, Table) and self.rows == other.rows

    def __str__(self):
        return " ".join([f"{width}:{worth}" for width, worth in self.rows])
