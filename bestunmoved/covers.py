"""Lots, their worths, and how well lots within a lot can cover it.

A cover gives each inner lot a number, at each door at most a scale in all. The cover that is worth most, and the
waits that keep all inner lots at least cost, prove each other best. Both are found by steps from corner to
corner of what covers there are (the simplex method), in integers over one common scale, and by Bland's rule,
which always comes to an end.
"""

from bestunmoved.ringlists import all_rings
from bestunmoved.rings import ring_worth


def worths_of_lots(table):
    """The lots that have a lot worth, with it, as a list of pairs, ascending."""
    worths = {}
    for ring in all_rings(table):
        lot = tuple(sorted(ring))
        worth = ring_worth(table, ring)
        if lot not in worths or worths[lot] < worth:
            worths[lot] = worth
    return [(lot, worths[lot]) for lot in sorted(worths)]


def inner_worths(worths, lot):
    """The pairs whose lot is within lot and unlike it."""
    return [pair for pair in worths if pair[0] != lot and all([door in lot for door in pair[0]])]


def first_rows(inner, lot):
    """The rows of each door of lot, and the row of what all is worth, where no lot covers anything.

    Columns are the inner lots, then the doors, then what is left at the door, or what all is worth.
    """
    rows = []
    for door in lot:
        rows.append([int(door in small) for small, _ in inner] + [int(door == other) for other in lot] + [1])
    return rows + [[-worth for _, worth in inner] + [0 for _ in lot] + [0]]


def entering_column(rows):
    """The first column that makes the cover worth more, or None."""
    for column, worth in enumerate(rows[-1][:-1]):
        if worth < 0:
            return column
    return None


def leaving_row(rows, basis, column):
    """The row that first has nothing left as the column grows; of several that of the least column."""
    best = None
    for at, column_there in enumerate(basis):
        if rows[at][column] <= 0:
            continue
        if best is None:
            best = at
            continue
        less = rows[at][-1] * rows[best][column] - rows[best][-1] * rows[at][column]
        if less < 0 or (less == 0 and column_there < basis[best]):
            best = at
    return best


def pivoted(rows, scale, at, column):
    """The rows with the column only in the row at; what was over scale is then over that row's entry there."""
    pivot = rows[at]
    top = pivot[column]
    solved = []
    for row in rows:
        solved.append([(entry * top - row[column] * other) // scale for entry, other in zip(row, pivot)])
    solved[at] = pivot
    return solved


def best_cover(inner, lot):
    """A triple (scale, numbers, waits): what the inner lots cover best, and waits that prove it; over the scale."""
    rows = first_rows(inner, lot)
    basis = [len(inner) + at for at in range(len(lot))]
    scale = 1
    column = entering_column(rows)
    while column is not None:
        at = leaving_row(rows, basis, column)
        rows, scale = pivoted(rows, scale, at, column), rows[at][column]
        basis[at] = column
        column = entering_column(rows)
    numbers = [rows[basis.index(place)][-1] if place in basis else 0 for place in range(len(inner))]
    return (scale, numbers, rows[-1][len(inner):-1])


def cover_worth(inner, numbers):
    """What the numbers of the inner lots are worth."""
    return sum([worth * number for (_, worth), number in zip(inner, numbers)])
