"""Pairings of ends and begins, and the cheapest of them."""

from bestunmoved.helpers import need
from bestunmoved.kinds import is_below, is_order, is_sized
from bestunmoved.partchecker import sum_of
from bestunmoved.partings import need_parting


def are_doors(many, thing):
    """Whether thing is a tuple of some of many doors, in any sequence, also with repeats."""
    return isinstance(thing, tuple) and all([is_below(many, door) for door in thing])


def need_ends(duties, ends, begins):
    """The parameters ends and begins have to be as many doors."""
    need(are_doors(len(duties), ends), "ends")
    need(is_sized(len(ends), begins) and are_doors(len(duties), begins), "begins")


def pairing_cost(duties, ends, begins, pairing):
    """The duties from each end to its begin, added; None if they are endless."""
    need_ends(duties, ends, begins)
    need(is_order(len(ends), pairing), "pairing")
    return sum_of([duties[end][begins[at]] for end, at in zip(ends, pairing)])


def counted_rows(duties, ends, begins):
    """The duties from each end to each begin, an endless one counted as more than all others together."""
    rows = [[duties[end][begin] for begin in begins] for end in ends]
    endless = 1 + sum([duty for row in rows for duty in row if duty is not None])
    return [[endless if duty is None else duty for duty in row] for row in rows]


def longer_choices(choices, row):
    """For each way to take one column more, by this row, the least sum and the columns in their sequence.

    The columns that are taken are told by the bits of one number; None is not taken.
    """
    more = {}
    for taken, (total, columns) in choices.items():
        for column, entry in enumerate(row):
            now = taken | 1 << column
            if entry is not None and now != taken and (now not in more or more[now][0] > total + entry):
                more[now] = (total + entry, columns + (column,))
    return more


def cheapest_columns(rows):
    """A column for each row, all different, of the least sum of entries; there are some without None."""
    choices = {0: (0, ())}
    for row in rows:
        choices = longer_choices(choices, row)
    return choices[(1 << len(rows)) - 1][1]


def cheapest_pairing(duties, ends, begins):
    """Any pairing of least cost."""
    need_ends(duties, ends, begins)
    return cheapest_columns(counted_rows(duties, ends, begins))


def inner_pairing(duties, parting, ends, begins):
    """Any pairing of least cost of those in which each end goes to a begin of its own part."""
    need_parting(len(duties), parting)
    need_ends(duties, ends, begins)
    need(sorted([parting[end] for end in ends]) == sorted([parting[begin] for begin in begins]), "begins")
    rows = []
    for end, row in zip(ends, counted_rows(duties, ends, begins)):
        rows.append([entry if parting[end] == parting[begin] else None for begin, entry in zip(begins, row)])
    return cheapest_columns(rows)
