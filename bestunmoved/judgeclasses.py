"""Houses with waits, as objects."""

from bestunmoved.helpers import need, need_numbers
from bestunmoved.judging import is_kept
from bestunmoved.kinds import is_house
from bestunmoved.leastwaits import least_wait, lowered
from bestunmoved.ringpapers import ring_paper
from bestunmoved.rooms import room_of
from bestunmoved.stamps import least_stamps
from bestunmoved.tables import table_of


class Judge:
    """A house with waits, which need not be kept."""

    def __init__(self, house, waits):
        need(is_house(house), "house")
        need_numbers(len(house[2]), waits, "waits")
        self._house = house
        self._waits = waits
        self._table = table_of(house)

    def kept(self):
        """Whether the waits are kept."""
        return is_kept(self._table, self._waits)

    def stamps(self):
        """The least stamps that suit."""
        return least_stamps(self._table, self._waits)

    def ring(self, grain):
        """Any barring ring at the grain, or None."""
        return ring_paper(self._table, grain, self._waits)

    def room(self, door, other):
        """The room of door for other."""
        return room_of(self._table, self._waits, door, other)

    def least(self, door):
        """The least wait of door, the others staying."""
        return least_wait(self._table, self._waits, door)

    def bare(self, order):
        """A new Judge with the waits lowered in this order."""
        return Judge(self._house, lowered(self._table, self._waits, order))

    def told(self):
        """The house and the waits."""
        return (self._house, self._waits)

    def __eq__(self, other):
        return isinstance(other, Judge) and self._house == other._house and self._waits == other._waits
