"""The most even sharing: the hand that is worst off gets as great a part of its total as can be."""

from halfcrumb.cells import all_cells
from halfcrumb.errors import NoHands, TooMany
from halfcrumb.fractions import greatest_divisor, minus, over, plus, sum_of, times
from halfcrumb.honest import greatest_of, worths_of
from halfcrumb.shares import Share
from halfcrumb.simplex import most_of

MOST_AMOUNTS = 24


def may_share(tables):
    """Tell whether there are as many tables as there are for a most even sharing."""
    return 2 <= len(tables) <= 4


def parts_of(table, cells):
    """Tell which part of the table's total each cell is worth."""
    return [over(worth, (table.total(), 1)) for worth in worths_of(table, cells)]


def common_bottom(parts):
    """Tell a whole number by which all these fractions can be made whole."""
    common = 1
    for top, bottom in parts:
        common = common // greatest_divisor(common, bottom) * bottom
    return common


def hand_row(parts, scale, hand, hands):
    """Tell that the part is no more than what the hand gets: times the scale, so that all numbers are whole."""
    row = [scale]
    for other in range(hands):
        row += [-(top * (scale // bottom)) if other == hand else 0 for top, bottom in parts]
    return row


def cell_row(cell, cells, hands):
    """Tell that no more of a cell is given away than there is."""
    return [0] + [1 if other == cell else 0 for other in range(cells)] * hands


def solved(cells, parts):
    """Tell the greatest part, the amount of each cell for each hand, hand by hand, and the weights."""
    many = len(cells)
    hands = len(parts)
    scales = [common_bottom(row) for row in parts]
    rows = [hand_row(parts[hand], scales[hand], hand, hands) for hand in range(hands)]
    rows += [cell_row(cell, many, hands) for cell in range(many)]
    limits = [0] * hands + [1] * many
    gains = [1] + [0] * (many * hands)
    amounts, prices = most_of(rows, limits, gains)
    weights = [times(price, (scale, 1)) for price, scale in zip(prices, scales)]
    return (amounts[0], [amounts[1 + many * hand:1 + many * (hand + 1)] for hand in range(hands)], weights)


def dealt_cell(cell, amounts):
    """Tell a span of the cell for each hand, by its amount; what is left over is the last hand's."""
    here, there = cell
    length = minus(there, here)
    spans = []
    for amount in amounts[:-1]:
        end = plus(here, times(amount, length))
        spans.append((here, end))
        here = end
    return [*spans, (here, there)]


def dealt_shares(cells, amounts):
    """Tell the share of each hand, by its amounts of the cells."""
    rows = [dealt_cell(cell, [row[at] for row in amounts]) for at, cell in enumerate(cells)]
    return [Share([spans[hand] for spans in rows]) for hand in range(len(amounts))]


def most_even(tables):
    """Tell the greatest part that all hands can have, shares that give it to them, and weights that show it."""
    if not may_share(tables):
        raise NoHands("a most even sharing is for two to four tables")
    cells = all_cells(tables)
    if len(cells) * len(tables) > MOST_AMOUNTS:
        raise TooMany("there are more than twenty-four cells times tables")
    part, amounts, weights = solved(cells, [parts_of(table, cells) for table in tables])
    return (part, dealt_shares(cells, amounts), weights)


def part_at_most(tables, weights):
    """Tell the part that no sharing goes beyond, by weights that are not below nought and whose sum is 1."""
    cells = all_cells(tables)
    rows = [
        [times(weight, part) for part in parts_of(table, cells)] for table, weight in zip(tables, weights)
    ]
    return sum_of([greatest_of([row[at] for row in rows]) for at in range(len(cells))])
