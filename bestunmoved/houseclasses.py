"""Houses as objects."""

from bestunmoved.housechanges import later_house
from bestunmoved.houses import house_of
from bestunmoved.partedhouses import kept_house
from bestunmoved.sights import hears, sees


class House:
    """A house that house_of puts together."""

    def __init__(self, ways, books, doors, duties):
        self._quadruple = house_of(ways, books, doors, duties)

    def sees(self, door, other):
        """Whether door sees other."""
        return sees(self._quadruple, door, other)

    def hears(self, door, other):
        """The way from the place of other to that of door, or None."""
        return hears(self._quadruple, door, other)

    def later(self, units):
        """The House with all ways between unlike places longer by units."""
        ways, books, doors, duties = later_house(self._quadruple, units)
        return House(ways, books, doors, duties)

    def kept(self, lot):
        """The House with the doors of lot alone."""
        ways, books, doors, duties = kept_house(self._quadruple, lot)
        return House(ways, books, doors, duties)

    def told(self):
        """The house as a quadruple."""
        return self._quadruple

    def __len__(self):
        return len(self._quadruple[2])

    def __eq__(self, other):
        return isinstance(other, House) and self._quadruple == other._quadruple
