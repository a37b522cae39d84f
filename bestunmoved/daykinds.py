"""Delays, dayhouses and dayrows: what they are."""

from bestunmoved.kinds import is_integer, is_numbers, is_sized, rest_fault
from bestunmoved.rings import ring_steps


def is_delays(day, thing):
    """Whether thing is delays: a number for each hour, at most one more than the next one."""
    return is_numbers(day, thing) and all([delay <= upcoming + 1 for delay, upcoming in ring_steps(thing)])


def is_day_row(day, many, own, thing):
    """Whether thing is a row of many entries, None or delays, only 0 at own."""
    if not is_sized(many, thing):
        return False
    if not all([delays is None or is_delays(day, delays) for delays in thing]):
        return False
    return thing[own] is not None and not any([delay > 0 for delay in thing[own]])


def day_rows_fault(day, ways):
    """The first fault (word, at) of the rows of a dayhouse's ways, by themselves; or None."""
    if not isinstance(ways, tuple) or len(ways) == 0:
        return ("ways", -1)
    for place, row in enumerate(ways):
        if not is_day_row(day, len(ways), place, row):
            return ("ways", place)
    return None


def come_at(delays, hour):
    """The hour at which a letter given at the hour has come at the latest."""
    return hour + delays[hour % len(delays)]


def is_sooner(first, second, way):
    """Whether a letter handed on by the first and the second delays comes, at some hour, sooner than by the way."""
    return any([come_at(second, come_at(first, hour)) < come_at(way, hour) for hour in range(len(way))])


def is_day_helped(ways, place):
    """Whether handing on gets a letter from place somewhere sooner than its way at some hour, or without one."""
    straight = ways[place]
    for first, row in zip(straight, ways):
        if first is None:
            continue
        for second, way in zip(row, straight):
            if second is not None and (way is None or is_sooner(first, second, way)):
                return True
    return False


def day_handing_fault(ways):
    """The first fault of ways of which the rows are well: a place where handing on helps; or None."""
    for place in range(len(ways)):
        if is_day_helped(ways, place):
            return ("handing", place)
    return None


def day_fault(thing):
    """The first fault (word, at) of thing as a dayhouse, or None if it is one."""
    if not is_sized(5, thing):
        return ("shape", -1)
    day, ways, books, doors, duties = thing
    if not is_integer(day) or day < 1:
        return ("day", -1)
    fault = day_rows_fault(day, ways)
    if fault is None:
        fault = day_handing_fault(ways)
    if fault is None:
        fault = rest_fault(ways, books, doors, duties)
    return fault


def is_dayhouse(thing):
    """Whether thing is a dayhouse."""
    return day_fault(thing) is None


def is_dayrows(dayhouse, thing):
    """Whether thing is dayrows of the dayhouse."""
    if not is_sized(len(dayhouse[3]), thing):
        return False
    return all([is_numbers(dayhouse[0], row) for row in thing])
