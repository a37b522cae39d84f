"""Parts: tables with waits and outer doors, as objects."""

from bestunmoved.gains import gains_of, is_outer, linked_tables
from bestunmoved.helpers import need, need_full_lot, need_numbers
from bestunmoved.judging import is_kept
from bestunmoved.tables import is_table


class Part:
    """A table with waits, which need not be kept, and a lot of outer doors."""

    def __init__(self, table, waits, outer):
        need(is_table(table), "table")
        need_numbers(len(table), waits, "waits")
        need(is_outer(len(table), outer), "outer")
        self._table = table
        self._waits = waits
        self._outer = outer

    def kept(self):
        """Whether the waits are kept."""
        return is_kept(self._table, self._waits)

    def gains(self):
        """The gains at the outer doors, or None."""
        return gains_of(self._table, self._waits, self._outer)

    def linked(self, other, there, back):
        """The Part of both, with these duties there and back between their outer doors, and all of these."""
        need(isinstance(other, Part), "other")
        table, waits, far = other.told()
        linked = linked_tables(self._table, table, self._outer, far, there, back)
        moved = tuple([door + len(self._table) for door in far])
        return Part(linked, self._waits + waits, self._outer + moved)

    def inner(self, lot):
        """The Part with those outer doors alone that stand at the places of lot."""
        need_full_lot(len(self._outer), lot)
        return Part(self._table, self._waits, tuple([self._outer[at] for at in lot]))

    def told(self):
        """The table, the waits and the outer doors."""
        return (self._table, self._waits, self._outer)

    def __eq__(self, other):
        return isinstance(other, Part) and self.told() == other.told()
