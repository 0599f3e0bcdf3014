"""The hands are parted in two groups by a cut between them, and each group shares its side of it."""

from halfcrumb.fractions import fraction_of, is_less
from halfcrumb.spans import BEGIN, END
from halfcrumb.ways import Way, check_number


def ranks_of(places):
    """Tell for each place how many come ahead of it, by place, alike ones as they stand in the list."""
    ranks = []
    for at, place in enumerate(places):
        ahead = [other for other in places if is_less(other, place)]
        alike = [other for other in places[:at] if other == place]
        ranks.append(len(ahead) + len(alike))
    return ranks


def halve(replay, group, here, there, dealt):
    """Share the span from here to there among a group of hands; what they get is put into dealt."""
    if len(group) == 1:
        dealt[group[0]].append((here, there))
        return
    few = len(group) // 2
    part = fraction_of(few, len(group))
    places = [replay.reply_to(("cut", hand, here, there, there, part)) for hand in group]
    ranks = ranks_of(places)
    middle = places[ranks.index(few - 1)]
    ahead = [hand for hand, rank in zip(group, ranks) if rank < few]
    behind = [hand for hand, rank in zip(group, ranks) if rank >= few]
    halve(replay, ahead, here, middle, dealt)
    halve(replay, behind, middle, there, dealt)


class Halving(Way):
    """The way of two to four hands; its number is how many they are."""

    def __init__(self, hands=2):
        check_number(hands, 2, 4)
        Way.__init__(self, "halving", hands, hands)

    def fresh(self):
        """Tell a new way of as many hands."""
        return Halving(self.number)

    def course(self, replay):
        """Halve the loaf and the hands till each hand is alone."""
        dealt = [[] for hand in range(self.size)]
        halve(replay, list(range(self.size)), BEGIN, END, dealt)
        return dealt
