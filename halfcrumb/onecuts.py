"""One cuts, the other one chooses."""

from halfcrumb.spans import BEGIN, END
from halfcrumb.ways import Way, check_number


class OneCuts(Way):
    """The way of two hands; its number is the cutter."""

    def __init__(self, cutter=0):
        check_number(cutter, 0, 1)
        Way.__init__(self, "onecuts", cutter, 2)

    def fresh(self):
        """Tell a new way with the same cutter."""
        return OneCuts(self.number)

    def course(self, replay):
        """Ask for the cut, then for the choice."""
        cutter = self.number
        other = 1 - cutter
        place = replay.reply_to(("cut", cutter, BEGIN, END, END, (1, 2)))
        pieces = ((BEGIN, place), (place, END))
        chosen = replay.reply_to(("choose", other, pieces))
        dealt = [[], []]
        dealt[other].append(pieces[chosen])
        dealt[cutter].append(pieces[1 - chosen])
        return dealt
