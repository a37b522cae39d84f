"""Dayhouses put together, and made of houses and houses of them."""

from bestunmoved.daykinds import day_rows_fault
from bestunmoved.delays import closed_delays
from bestunmoved.helpers import need, need_grain
from bestunmoved.houses import house_with
from bestunmoved.kinds import is_number


def dayhouse_of(day, ways, books, doors, duties):
    """The dayhouse with these parts, its ways closed."""
    need_grain(day, "day")
    need(day_rows_fault(day, ways) is None, "ways")
    return (day,) + house_with(closed_delays(day, ways), books, doors, duties)


def same_day(house, day):
    """The dayhouse with the ways of the house at all hours."""
    need_grain(day, "day")
    ways = [tuple([None if way is None else (way,) * day for way in row]) for row in house[0]]
    return (day, tuple(ways), house[1], house[2], house[3])


def same_rows(day, waits):
    """For each of the waits the row that has it at all hours."""
    need(isinstance(waits, tuple) and all([is_number(wait) for wait in waits]), "waits")
    return tuple([(wait,) * day for wait in waits])


def longest_house(dayhouse):
    """The house whose ways are the greatest delay of each way."""
    _, ways, books, doors, duties = dayhouse
    longest = [tuple([None if delays is None else max(delays) for delays in row]) for row in ways]
    return (tuple(longest), books, doors, duties)
