"""A thread of beads, which is cut and mended."""

from halfcrumb.beads import check_beads, fewest_cuts, is_cut, kinds_of, parts_evenly, pieces_of
from halfcrumb.errors import NoCut, NoHand
from halfcrumb.figures import is_whole_number
from halfcrumb.history import History


class Thread:
    """Beads, and in the history the cuts, rising, and the hand that gets the first piece."""

    def __init__(self, beads):
        check_beads(beads)
        self.beads = beads
        self.history = History(((), 0))

    def cut(self, at):
        """Cut behind so many beads."""
        cuts, first = self.history.now
        if not is_cut(at, len(self.beads)) or at in cuts:
            raise NoCut(at)
        self.history.go_on((tuple(sorted([*cuts, at])), first))

    def mend(self, at=None):
        """Take the cut behind so many beads away, or the greatest cut."""
        cuts, first = self.history.now
        mended = max(cuts, default=None) if at is None else at
        if not is_whole_number(mended) or mended not in cuts:
            raise NoCut(at)
        self.history.go_on((tuple([other for other in cuts if other != mended]), first))

    def flip(self):
        """Let the other hand be first."""
        cuts, first = self.history.now
        self.history.go_on((cuts, 1 - first))

    def settle(self):
        """Cut by the fewest cuts instead of those that are there, and tell them."""
        cuts = fewest_cuts(self.beads)
        self.history.go_on((tuple(cuts), self.begins()))
        return cuts

    def undo(self):
        """Take the last deed back."""
        self.history.go_back()

    def again(self):
        """Do the deed once more that was taken back last."""
        self.history.go_forth()

    def cuts(self):
        """Tell the cuts, rising."""
        cuts, first = self.history.now
        return list(cuts)

    def begins(self):
        """Tell the hand that gets the first piece."""
        cuts, first = self.history.now
        return first

    def pieces(self):
        """Tell the pieces, one more than there are cuts."""
        return pieces_of(self.beads, self.cuts())

    def counts(self, hand):
        """Tell how many a, b, c a hand gets."""
        if not is_whole_number(hand) or hand not in (0, 1):
            raise NoHand(hand)
        return kinds_of(self.pieces(), 0 if hand == self.begins() else 1)

    def even(self):
        """Tell whether both hands get as many of each kind."""
        return parts_evenly(self.beads, self.cuts())

    def twin(self):
        """Tell a thread that is alike, also in what can be taken back, and goes on by itself."""
        other = Thread(self.beads)
        other.history = self.history.branch()
        return other

    def __len__(self):
        return len(self.beads)

    def __eq__(self, other):
        return isinstance(other, Thread) and self.beads == other.beads and self.history.now == other.history.now

    def __str__(self):
        return f"{self.begins()}:{'|'.join(self.pieces())}"
