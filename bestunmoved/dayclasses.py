"""Dayhouses with dayrows, as objects."""

from bestunmoved.dayarcs import answer_hour, need_dayrows
from bestunmoved.dayjudge import day_kept, day_ring, day_stamps
from bestunmoved.daykinds import is_dayhouse
from bestunmoved.dayruns import day_run
from bestunmoved.helpers import need
from bestunmoved.leastrows import least_row, lowered_rows


class Daybook:
    """A dayhouse with dayrows, which need not be kept."""

    def __init__(self, dayhouse, dayrows):
        need(is_dayhouse(dayhouse), "dayhouse")
        need_dayrows(dayhouse, dayrows)
        self._dayhouse = dayhouse
        self._dayrows = dayrows

    def kept(self):
        """Whether the dayrows are kept."""
        return day_kept(self._dayhouse, self._dayrows)

    def stamps(self):
        """Any day stamps that suit."""
        return day_stamps(self._dayhouse, self._dayrows)

    def ring(self):
        """Any barring ring of hours, or None."""
        return day_ring(self._dayhouse, self._dayrows)

    def answer(self, door, hour):
        """The hour at which a deed of the door asked at the hour is answered."""
        return answer_hour(self._dayhouse, self._dayrows, door, hour)

    def least(self, door):
        """The least row of the door, or None."""
        return least_row(self._dayhouse, self._dayrows, door)

    def bare(self, order):
        """A new Daybook with the dayrows lowered in this order."""
        return Daybook(self._dayhouse, lowered_rows(self._dayhouse, self._dayrows, order))

    def run(self, stamps, asks, news):
        """The history by these dayrows and stamps."""
        return day_run(self._dayhouse, self._dayrows, stamps, asks, news)

    def told(self):
        """The dayhouse and the dayrows."""
        return (self._dayhouse, self._dayrows)

    def __eq__(self, other):
        return isinstance(other, Daybook) and self.told() == other.told()
