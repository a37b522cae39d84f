"""The cheapest waits that are kept."""

from bestunmoved.dealings import dealing_costs, dearest_by
from bestunmoved.helpers import need_numbers
from bestunmoved.judging import least_heights


def priced(rates, waits):
    """The rates times the waits, added."""
    return sum([rate * wait for rate, wait in zip(rates, waits)])


def cost_of(rates, waits):
    """The cost of the waits."""
    need_numbers(len(rates), waits, "waits")
    return priced(rates, waits)


def deal_paper(table, rates):
    """A triple: kept waits of least cost, stamps that suit them, a dealing of as great a worth.

    The heights of a door's column and row tell what a dealing through them is worth at most; what the dearest
    dealing deals is worth just that. So the column is a stamp, and what it is above the row is a wait.
    """
    need_numbers(len(table), rates, "rates")
    dealing = dearest_by(table, rates)
    heights = least_heights(dealing_costs(table, dealing))
    stamps = heights[len(table):]
    waits = tuple([stamp - height for stamp, height in zip(stamps, heights)])
    return (waits, stamps, dealing)


def cheapest_waits(table, rates):
    """Any kept waits of least cost."""
    return deal_paper(table, rates)[0]
