"""The simplex: the most of a sum, where other sums have limits.

All is kept in whole numbers: what stands in a grid is to be divided by its scale, the number at the last pivot. (Each
number is then a minor of the first grid, so every division by the scale leaves no rest.)
"""

from halfcrumb.fractions import fraction_of


def first_grid(rows, limits, gains):
    """Tell a line for each row, with a slack of its own and its limit at the end, and below them that of the gains."""
    grid = []
    for at, row in enumerate(rows):
        slacks = [1 if other == at else 0 for other in range(len(rows))]
        grid.append([*row, *slacks, limits[at]])
    goal = [-gain for gain in gains]
    grid.append(goal + [0] * (len(rows) + 1))
    return grid


def first_helpful(goal):
    """Tell the first column that makes the sum greater, or None."""
    for column, loss in enumerate(goal[:-1]):
        if loss < 0:
            return column
    return None


def is_tighter(grid, one, other, column):
    """Tell whether line one lets the column grow less than line other does."""
    return grid[one][-1] * grid[other][column] < grid[other][-1] * grid[one][column]


def tightest(grid, basis, column):
    """Tell the line that lets the column grow the least; of several the one whose variable comes first."""
    best = None
    for line in sorted(range(len(basis)), key=lambda at: basis[at]):
        if grid[line][column] > 0 and (best is None or is_tighter(grid, line, best, column)):
            best = line
    return best


def swept(line, pivot_line, column, scale):
    """Tell a line without the column, by so much of the pivot's line as takes it away."""
    pivot = pivot_line[column]
    much = line[column]
    return [(number * pivot - much * other) // scale for number, other in zip(line, pivot_line)]


def most_of(rows, limits, gains):
    """Tell the amounts, none below nought, by which the sum of the gains is the most, and the price of each row.

    Each row is a list of whole numbers, one for each amount; their sum by the amounts is at most its limit, which is
    not below 0. Whoever asks knows that there is a most. The price tells how much more of the sum a higher limit
    would give.
    """
    grid = first_grid(rows, limits, gains)
    # The variable of each line, at first its slack.
    basis = [len(gains) + at for at in range(len(rows))]
    scale = 1
    column = first_helpful(grid[-1])
    while column is not None:
        pivot = tightest(grid, basis, column)
        pivot_line = grid[pivot]
        grid = [
            line if at == pivot else swept(line, pivot_line, column, scale) for at, line in enumerate(grid)
        ]
        basis[pivot] = column
        scale = pivot_line[column]
        column = first_helpful(grid[-1])
    amounts = [(0, 1)] * len(gains)
    for line, variable in enumerate(basis):
        if variable < len(gains):
            amounts[variable] = fraction_of(grid[line][-1], scale)
    prices = [fraction_of(price, scale) for price in grid[-1][len(gains):-1]]
    return (amounts, prices)
