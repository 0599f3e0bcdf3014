"""What was done, so that it can be taken back and done once more."""

from halfcrumb.errors import NothingDone


class History:
    """The state as it is now, those ahead of the deeds that led to it, and those behind the ones taken back.

    A state is never changed: each deed makes a new one, so that the old ones can come back, and so that two histories
    may keep the same.
    """

    def __init__(self, state):
        self.past = []
        self.now = state
        self.future = []

    def go_on(self, state):
        """Keep what stands behind a new deed."""
        self.past.append(self.now)
        self.now = state
        self.future = []

    def go_back(self):
        """Take the last deed back."""
        if self.past == []:
            raise NothingDone("no deed can be taken back")
        self.future.append(self.now)
        self.now = self.past.pop()

    def go_forth(self):
        """Do the deed once more that was taken back last."""
        if self.future == []:
            raise NothingDone("no deed can be done once more")
        self.past.append(self.now)
        self.now = self.future.pop()

    def branch(self):
        """Tell a history that stands just as this one does, and goes on by itself."""
        other = History(self.now)
        other.past = list(self.past)
        other.future = list(self.future)
        return other
