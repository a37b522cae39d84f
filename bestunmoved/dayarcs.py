"""Hours that are surely ahead of each other, by a dayhouse."""

from bestunmoved.arcs import is_moment
from bestunmoved.daykinds import come_at, is_dayrows
from bestunmoved.helpers import need, need_below
from bestunmoved.kinds import common_books, is_integer


def need_dayrows(dayhouse, dayrows):
    """The parameter dayrows has to be dayrows of the dayhouse."""
    need(is_dayrows(dayhouse, dayrows), "dayrows")


def sight_delays(dayhouse, door, other):
    """The delays from the place of other to that of door, if door sees it; otherwise None."""
    doors = dayhouse[3]
    if common_books(doors[door], doors[other]) == ():
        return None
    return dayhouse[1][doors[other][0]][doors[door][0]]


def word_by_day(dayhouse, dayrows, one, other):
    """How the hour one is surely ahead of the hour other; or None."""
    door, hour = one
    later, upcoming = other
    answered = come_at(dayrows[door], hour)
    if door == later:
        return "own" if upcoming > answered else None
    delays = sight_delays(dayhouse, door, later)
    if delays is not None and come_at(delays, upcoming) > answered:
        return "sight"
    duty = dayhouse[4][door][later]
    return "duty" if duty is not None and upcoming > answered + duty else None


def first_behind(delays, hour):
    """The least hour at which what is given has come, by the delays, behind the hour."""
    firsts = []
    for rest, delay in enumerate(delays):
        least = hour + 1 - delay
        firsts.append(least + (rest - least) % len(delays))
    return min(firsts)


def first_by_day(dayhouse, dayrows, one, door):
    """The least hour of the door of which the hour one is surely ahead, or None."""
    answered = come_at(dayrows[one[0]], one[1])
    if door == one[0]:
        return answered + 1
    firsts = []
    delays = sight_delays(dayhouse, one[0], door)
    if delays is not None:
        firsts.append(first_behind(delays, answered))
    duty = dayhouse[4][one[0]][door]
    if duty is not None:
        firsts.append(answered + duty + 1)
    return min(firsts, default=None)


def answer_hour(dayhouse, dayrows, door, hour):
    """The hour at which a deed of the door asked at the hour is answered."""
    need_dayrows(dayhouse, dayrows)
    need_below(len(dayhouse[3]), door, "door")
    need(is_integer(hour), "hour")
    return come_at(dayrows[door], hour)


def day_word(dayhouse, dayrows, one, other):
    """How the hour one is surely ahead of the hour other: "own", "sight", "duty" or None."""
    need_dayrows(dayhouse, dayrows)
    need(is_moment(len(dayhouse[3]), one), "one")
    need(is_moment(len(dayhouse[3]), other), "other")
    return word_by_day(dayhouse, dayrows, one, other)


def first_ahead(dayhouse, dayrows, one, door):
    """The least hour of the door of which the hour one is surely ahead, or None."""
    need_dayrows(dayhouse, dayrows)
    need(is_moment(len(dayhouse[3]), one), "one")
    need_below(len(dayhouse[3]), door, "door")
    return first_by_day(dayhouse, dayrows, one, door)
