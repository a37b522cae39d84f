"""Dealings by rates, and the dearest of them.

The dearest dealing is a flow from the rows of the doors to their columns. Its costs, as in judging, are those
of the steps between them: nodes 0 to n - 1 are the rows, nodes n to 2 n - 1 the columns.
"""

from bestunmoved.helpers import as_rows, need, need_numbers
from bestunmoved.judging import eased
from bestunmoved.kinds import is_numbers, is_sized


def is_dealt(table, thing):
    """Whether thing is rows of numbers, as large as the table, 0 where it has None."""
    if not is_sized(len(table), thing):
        return False
    for row, numbers in zip(table, thing):
        if not is_numbers(len(table), numbers):
            return False
        if any([entry is None and number > 0 for entry, number in zip(row, numbers)]):
            return False
    return True


def is_dealing_by(table, rates, thing):
    """Whether thing is a dealing by rates that are such."""
    if not is_dealt(table, thing):
        return False
    rows = [sum(row) for row in thing]
    columns = [sum([row[door] for row in thing]) for door in range(len(table))]
    return rows == list(rates) and columns == list(rates)


def is_dealing(table, rates, thing):
    """Whether thing is a dealing by rates."""
    need_numbers(len(table), rates, "rates")
    return is_dealing_by(table, rates, thing)


def worth_dealt(table, dealing):
    """The worth of a dealing that is one."""
    worth = 0
    for row, numbers in zip(table, dealing):
        worth = worth + sum([number * entry for entry, number in zip(row, numbers) if entry is not None])
    return worth


def dealing_worth(table, dealing):
    """The worth of the dealing, whatever it adds up to."""
    need(is_dealt(table, dealing), "dealing")
    return worth_dealt(table, dealing)


def dealing_costs(table, dealing):
    """What one more costs from each row to each column, and one less from a column back to a row that deals it."""
    many = len(table)
    costs = [[None] * (2 * many) for _ in range(2 * many)]
    for door, row in enumerate(table):
        for other, entry in enumerate(row):
            if entry is not None:
                costs[door][many + other] = -entry
                if dealing[door][other] > 0:
                    costs[many + other][door] = entry
    return costs


def cheapest_walk(costs, starts, ends):
    """The cheapest walk of costs from one of the starts to one of the ends, as a list."""
    depths = [0 if node in starts else None for node in range(len(costs))]
    befores = [None for _ in costs]
    while eased(costs, depths, befores) is not None:
        pass
    least = min([depths[end] for end in ends if depths[end] is not None])
    walk = [[end for end in ends if depths[end] == least][0]]
    while befores[walk[-1]] is not None:
        walk.append(befores[walk[-1]])
    return walk[::-1]


def deal_more(table, dealing, rates):
    """Makes the dearest dealing (lists), which may lack one at some doors, the dearest one by rates."""
    many = len(table)
    rows = [door for door in range(many) if sum(dealing[door]) < rates[door]]
    columns = [many + door for door in rows]
    while len(rows) > 0:
        walk = cheapest_walk(dealing_costs(table, dealing), rows, columns)
        for node, upcoming in zip(walk, walk[1:]):
            if node < many:
                dealing[node][upcoming - many] += 1
            else:
                dealing[upcoming][node - many] -= 1
        rows.remove(walk[0])
        columns.remove(walk[-1])


def dearest_by(table, rates):
    """The dearest dealing by rates that are such.

    Twice the dearest dealing is the dearest one by twice the rates; so the rates are gone through bit by bit.
    """
    dealing = [[0 for _ in table] for _ in table]
    for shift in range(max(rates).bit_length() - 1, -1, -1):
        dealing = [[2 * number for number in row] for row in dealing]
        deal_more(table, dealing, [rate >> shift for rate in rates])
    return as_rows(dealing)


def dearest_dealing(table, rates):
    """Any dealing by rates of greatest worth."""
    need_numbers(len(table), rates, "rates")
    return dearest_by(table, rates)


def least_cost(table, rates):
    """The least cost of kept waits: the greatest worth of a dealing by rates."""
    need_numbers(len(table), rates, "rates")
    return worth_dealt(table, dearest_by(table, rates))
