"""Tables with rates, as objects."""

from bestunmoved.cheapwaits import cheapest_waits, deal_paper
from bestunmoved.dealings import dearest_dealing, least_cost
from bestunmoved.helpers import need, need_numbers
from bestunmoved.means import dearest_mean, even_wait
from bestunmoved.tables import is_table


class Prices:
    """A table with a rate for each door."""

    def __init__(self, table, rates):
        need(is_table(table), "table")
        need_numbers(len(table), rates, "rates")
        self._table = table
        self._rates = rates

    def cost(self):
        """The least cost of kept waits."""
        return least_cost(self._table, self._rates)

    def waits(self):
        """Any kept waits of least cost."""
        return cheapest_waits(self._table, self._rates)

    def dealing(self):
        """Any dealing by the rates of greatest worth."""
        return dearest_dealing(self._table, self._rates)

    def mean(self):
        """The greatest quotient of a ring's worth by its number of doors, or None."""
        return dearest_mean(self._table)

    def even(self):
        """The least number that all doors can have alike as kept waits."""
        return even_wait(self._table)

    def paper(self):
        """Any kept waits of least cost, stamps that suit them, a dealing of greatest worth."""
        return deal_paper(self._table, self._rates)

    def told(self):
        """The table and the rates."""
        return (self._table, self._rates)

    def __eq__(self, other):
        return isinstance(other, Prices) and self._table == other._table and self._rates == other._rates
