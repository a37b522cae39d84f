"""Tables that let the same waits be kept."""

from bestunmoved.atonce import all_lots
from bestunmoved.cheapwaits import deal_paper
from bestunmoved.helpers import need, rows_among
from bestunmoved.permutations import best_worth
from bestunmoved.tables import is_table


def telling_waits(table, other):
    """Any waits that one of the tables keeps and the other one does not; None if there are none.

    The greatest worth of a permutation within a lot is the least that kept waits add up to there. So where
    this is less for one table than for the other one, its cheapest waits there tell them apart.
    """
    need(is_table(other) and len(other) == len(table), "other")
    for lot in all_lots(len(table)):
        worth = best_worth(rows_among(table, lot))
        others = best_worth(rows_among(other, lot))
        if worth != others:
            rates = [int(door in lot) for door in range(len(table))]
            return deal_paper(table if worth < others else other, tuple(rates))[0]
    return None


def waits_alike(table, other):
    """Whether both tables let the same waits be kept."""
    return telling_waits(table, other) is None
