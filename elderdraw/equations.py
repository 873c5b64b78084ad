"""Equations of resting and of averages, solved by whole numbers alone."""

from elderdraw.shares import Share


def solved(grid):
    """Solve equations, a row each, with as many unknowns: the first columns are theirs, the further ones right sides.

    Tell a list of lists, the right sides of each unknown, and the number over which they all stand. The first so many
    rows and columns must have a determinant above 0, whatever their number: so have equations of resting and averages.
    """
    # Each pivot is such a determinant, and by the one ahead of it each division leaves no rest.
    divisor = 1
    for k in range(len(grid)):
        pivot = grid[k][k]
        grid = _cleared(grid, k, divisor)
        divisor = pivot
    return [row[len(grid):] for row in grid], divisor


def _cleared(grid, k, divisor):
    """Tell the grid with column k at 0 in all rows but row k."""
    head = grid[k]
    cleared = []
    for at, row in enumerate(grid):
        if at == k:
            cleared.append(row)
        else:
            cleared.append([(head[k] * b - row[k] * a) // divisor for a, b in zip(head, row)])
    return cleared


def averages(steps, known, more):
    """Tell of each thing its shares, a dict of lists.

    steps tells of each thing a list of the things to which it is led, sign by sign; known tells of some things their
    shares, lists of whole numbers. Those of each other one are the numbers of the list more, and the average of those
    of the things to which it is led. From each thing some row of steps must lead to a known one.
    """
    unknown = {}
    for thing in steps:
        if thing not in known:
            unknown[thing] = len(unknown)
    rights, divisor = solved([_equation(thing, steps[thing], unknown, known, more) for thing in unknown])
    told = {}
    for thing in steps:
        if thing in known:
            told[thing] = [Share(number) for number in known[thing]]
        else:
            told[thing] = [Share(number, divisor) for number in rights[unknown[thing]]]
    return told


def _equation(thing, ahead, unknown, known, more):
    """Tell the equation of an unknown thing, as a row of a grid, as many times over as signs lead it ahead."""
    row = [0] * len(unknown)
    row[unknown[thing]] = len(ahead)
    right = [number * len(ahead) for number in more]
    for other in ahead:
        if other in known:
            right = [one + two for one, two in zip(right, known[other])]
        else:
            row[unknown[other]] -= 1
    return row + right
