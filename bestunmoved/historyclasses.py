"""Histories of houses, as objects."""

from bestunmoved.dues import late_deeds
from bestunmoved.forced import need_grain_history
from bestunmoved.helpers import need
from bestunmoved.historychanges import history_kept
from bestunmoved.historykinds import need_faultless
from bestunmoved.kinds import is_house
from bestunmoved.orders import deed_ring, order_of
from bestunmoved.partedhouses import kept_house
from bestunmoved.verdicts import verdict_of


class History:
    """A house, a grain and a history without faults."""

    def __init__(self, house, grain, history):
        need(is_house(house), "house")
        need_grain_history(house, grain, history)
        need_faultless(house, history)
        self._triple = (house, grain, history)

    def order(self):
        """The least order of the history, or None."""
        house, grain, history = self._triple
        return order_of(house, grain, history)

    def ring(self):
        """Any ring of deeds, or None."""
        house, grain, history = self._triple
        return deed_ring(house, grain, history)

    def verdict(self):
        """Any order of the history, or any ring of deeds, behind its word."""
        house, grain, history = self._triple
        return verdict_of(house, grain, history)

    def late(self, waits):
        """The lot of the deeds answered later than these waits."""
        house, grain, history = self._triple
        return late_deeds(house, grain, waits, history)

    def kept(self, lot):
        """The History of the doors of lot alone."""
        house, grain, history = self._triple
        return History(kept_house(house, lot), grain, history_kept(house, history, lot))

    def told(self):
        """The house, the grain and the history."""
        return self._triple

    def __len__(self):
        return len(self._triple[2])

    def __eq__(self, other):
        return isinstance(other, History) and self._triple == other._triple
