"""The hands trim a piece from the left one after the other; who trimmed it last gets it."""

from halfcrumb.fractions import fraction_of, is_less
from halfcrumb.spans import BEGIN, END
from halfcrumb.ways import Way, check_number


def last_trimmer(replay, group, here):
    """Ask each hand of a group for the end of a piece from here on; tell whose reply it is, and where."""
    part = fraction_of(1, len(group))
    # The first reply is now whatever it is, also where it is 1 and so not less.
    trimmer = group[0]
    now = END
    for hand in group:
        place = replay.reply_to(("cut", hand, here, now, END, part))
        if is_less(place, now):
            trimmer = hand
            now = place
    return (trimmer, now)


class Trimming(Way):
    """The way of two to four hands; its number is how many they are."""

    def __init__(self, hands=2):
        check_number(hands, 2, 4)
        Way.__init__(self, "trimming", hands, hands)

    def fresh(self):
        """Tell a new way of as many hands."""
        return Trimming(self.number)

    def course(self, replay):
        """Let one hand after the other go with a piece; the last one gets what is left."""
        dealt = [[] for hand in range(self.size)]
        group = list(range(self.size))
        here = BEGIN
        while len(group) > 1:
            trimmer, now = last_trimmer(replay, group, here)
            dealt[trimmer].append((here, now))
            group = [hand for hand in group if hand != trimmer]
            here = now
        dealt[group[0]].append((here, END))
        return dealt
