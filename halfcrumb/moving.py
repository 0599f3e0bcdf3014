"""Two cuts that move along the loaf, each at a rate of its own by one table.

They move in steps, none of which goes across an end of any table: so in a step all that is told of them by any of the
tables grows or falls evenly.
"""

from halfcrumb.fractions import is_less, minus, over, plus, times
from halfcrumb.spans import greater, lesser

NOUGHT = (0, 1)


def next_end(ends, place, rate):
    """Tell the end that comes next from a place, to the right where the rate is above 0, else to the left."""
    if rate > 0:
        return [end for end in ends if is_less(place, end)][0]
    return [end for end in ends if is_less(end, place)][-1]


def between(one, other, part):
    """Tell the fraction that is a part of the way from one to other."""
    return plus(one, times(minus(other, one), part))


def turns_to(table, place, goal, rate):
    """Tell how many turns a cut takes from a place to its goal; nought where no worth lies there."""
    much = table.worth(lesser(place, goal), greater(place, goal))
    return over(much, (abs(rate), 1))


def moved(table, ends, cuts, rates):
    """Tell two cuts a step further.

    A rate tells how much worth by the table the cut goes across in a turn; below 0 it goes to the left.
    """
    goals = [next_end(ends, cut, rate) for cut, rate in zip(cuts, rates)]
    turns = [turns_to(table, cut, goal, rate) for cut, goal, rate in zip(cuts, goals, rates)]
    # Where no worth lies, a cut goes on alone. The right one goes first, so that the left one, which may have none
    # ahead of it either, has not gone on when the right one comes to the end of the loaf.
    if turns[1] == NOUGHT:
        return [cuts[0], goals[1]]
    if turns[0] == NOUGHT:
        return [goals[0], cuts[1]]
    step = lesser(turns[0], turns[1])
    return [between(cut, goal, over(step, many)) for cut, goal, many in zip(cuts, goals, turns)]


def part_to_nought(before, after):
    """Tell at which part of a step a number, at first not below nought, is nought, or None where it stays above."""
    if before == NOUGHT:
        return NOUGHT
    if is_less(NOUGHT, after):
        return None
    return over(before, minus(before, after))


def least_part(befores, afters):
    """Tell at which part of a step the first of some numbers is nought, or None."""
    least = None
    for before, after in zip(befores, afters):
        part = part_to_nought(before, after)
        if part is not None:
            least = part if least is None else lesser(least, part)
    return least


def till_nought(table, ends, cuts, rates, leads_at):
    """Move two cuts till one of the numbers that leads_at tells of them, at first none below nought, is nought.

    Whoever asks knows that this comes ahead of the end of the loaf.
    """
    ahead = cuts
    now = cuts
    part = None
    while part is None:
        ahead = now
        now = moved(table, ends, ahead, rates)
        part = least_part(leads_at(ahead), leads_at(now))
    return [between(one, other, part) for one, other in zip(ahead, now)]
