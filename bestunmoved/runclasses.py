"""Runs by waits and stamps, as objects."""

from bestunmoved.folds import cut_of
from bestunmoved.helpers import need
from bestunmoved.kinds import is_house
from bestunmoved.spoils import spoilt_deeds
from bestunmoved.stampruns import need_run, stamp_run
from bestunmoved.standings import due_run
from bestunmoved.verdicts import verdict_of


class Run:
    """A run of a house by waits and stamps, with asks and news."""

    def __init__(self, house, grain, waits, stamps, asks, news):
        need(is_house(house), "house")
        need_run(house, grain, waits, stamps, asks, news)
        self._six = (house, grain, waits, stamps, asks, news)

    def history(self):
        """The history that the run leaves."""
        house, grain, waits, stamps, asks, news = self._six
        return stamp_run(house, grain, waits, stamps, asks, news)

    def due(self):
        """The history that is due."""
        house, grain, waits, stamps, asks, _ = self._six
        return due_run(house, grain, waits, stamps, asks)

    def spoilt(self):
        """The lot of the deeds with spoilt answers."""
        house, grain, waits, stamps, asks, news = self._six
        return spoilt_deeds(house, grain, waits, stamps, asks, news)

    def cut(self, place, moment):
        """The cut of the place at the moment, or None."""
        house, grain, waits, stamps, asks, _ = self._six
        return cut_of(house, grain, waits, stamps, asks, place, moment)

    def verdict(self):
        """The verdict on the history."""
        return verdict_of(self._six[0], self._six[1], self.history())

    def told(self):
        """The house, the grain, the waits, the stamps, the asks and the news."""
        return self._six

    def __eq__(self, other):
        return isinstance(other, Run) and self._six == other._six
