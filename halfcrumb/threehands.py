"""Three hands, of which none envies another one."""

from halfcrumb.asks import NO_PIECE
from halfcrumb.spans import BEGIN, END
from halfcrumb.ways import Way, check_number


def without(pieces, number):
    """Tell the pieces but the one of that number, in their order."""
    return pieces[:number] + pieces[number + 1:]


def cut_in_three(replay, hand, here, there):
    """Ask a hand for two cuts; tell the three pieces from here to there."""
    first = replay.reply_to(("cut", hand, here, there, there, (1, 3)))
    second = replay.reply_to(("cut", hand, first, there, there, (1, 2)))
    return ((here, first), (first, second), (second, there))


def trim_one(replay, hand, pieces):
    """Let a hand trim a piece; tell its number, the pieces as they are then, and the rest that is set aside.

    Where nothing is trimmed, the number and the rest are None.
    """
    number = replay.reply_to(("trim", hand, pieces))
    if number == NO_PIECE:
        return (None, pieces, None)
    here, there = pieces[number]
    place = replay.reply_to(("even", hand, here, there, without(pieces, number)))
    if place == there:
        return (None, pieces, None)
    now = pieces[:number] + ((here, place),) + pieces[number + 1:]
    return (number, now, (place, there))


def deal(replay, pieces, group, dealt):
    """Let each hand of a group choose one of as many pieces, in turn; the last one gets what is left, unasked."""
    left = pieces
    for hand in group:
        chosen = 0 if len(left) == 1 else replay.reply_to(("choose", hand, left))
        dealt[hand].append(left[chosen])
        left = without(left, chosen)


class ThreeHands(Way):
    """The way of three hands; its number is the cutter."""

    def __init__(self, cutter=0):
        check_number(cutter, 0, 2)
        Way.__init__(self, "threehands", cutter, 3)

    def fresh(self):
        """Tell a new way with the same cutter."""
        return ThreeHands(self.number)

    def course(self, replay):
        """Share three pieces, one of them perhaps trimmed, and then the rest, where there is one."""
        cutter = self.number
        trimmer = (cutter + 1) % 3
        chooser = (cutter + 2) % 3
        dealt = [[], [], []]
        whole = cut_in_three(replay, cutter, BEGIN, END)
        number, pieces, rest = trim_one(replay, trimmer, whole)
        chosen = replay.reply_to(("choose", chooser, pieces))
        dealt[chooser].append(pieces[chosen])
        if number is None or number == chosen:
            deal(replay, without(pieces, chosen), (trimmer, cutter), dealt)
        else:
            dealt[trimmer].append(pieces[number])
            dealt[cutter].append(pieces[3 - number - chosen])
        if rest is not None:
            owner, divider = (chooser, trimmer) if number == chosen else (trimmer, chooser)
            crumbs = cut_in_three(replay, divider, rest[0], rest[1])
            deal(replay, crumbs, (owner, cutter, divider), dealt)
        return dealt
