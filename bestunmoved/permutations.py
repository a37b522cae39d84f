"""Worths of permutations of the doors of a lot."""

from bestunmoved.helpers import need, need_lot, need_numbers, rows_among
from bestunmoved.kinds import is_integer


def is_order_of(lot, thing):
    """Whether thing is a tuple of the doors of lot, each once."""
    if not isinstance(thing, tuple) or not all([is_integer(door) for door in thing]):
        return False
    return sorted(thing) == list(lot)


def permutation_worth(table, lot, order):
    """The worth of the permutation of lot that order tells, or None."""
    need_lot(len(table), lot)
    need(is_order_of(lot, order), "order")
    entries = [table[door][other] for door, other in zip(lot, order)]
    return None if None in entries else sum(entries)


def taken_worths(worths, row):
    """For each way to take the columns of the rows so far and one more, by row, the greatest worth.

    The columns that are taken are told by the bits of one number.
    """
    more = {}
    for taken, worth in worths.items():
        for column, entry in enumerate(row):
            now = taken | 1 << column
            if entry is not None and now != taken and (now not in more or more[now] < worth + entry):
                more[now] = worth + entry
    return more


def best_worth(rows):
    """The greatest sum of one entry of each row, all of different columns; None if there is none."""
    worths = {0: 0}
    for row in rows:
        worths = taken_worths(worths, row)
    return worths.get((1 << len(rows)) - 1)


def with_diagonal(rows, diagonal):
    """The rows with other entries from each door to itself."""
    changed = [list(row) for row in rows]
    for door, entry in enumerate(diagonal):
        changed[door][door] = entry
    return changed


def moving_worth(table, lot):
    """The greatest worth of a permutation of lot that moves each door, or None."""
    need_lot(len(table), lot)
    return best_worth(with_diagonal(rows_among(table, lot), [None for _ in lot]))


def within_worth(table, lot):
    """The greatest worth of a permutation of lot."""
    need_lot(len(table), lot)
    return best_worth(rows_among(table, lot))


def diagonal_worth(table, waits):
    """The greatest worth of a permutation of all doors, a door that stays counting its wait."""
    need_numbers(len(table), waits, "waits")
    return best_worth(with_diagonal(table, waits))
