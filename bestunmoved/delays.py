"""Delays by the hours of the day: by ships, the same at all hours, closed by handing on."""

from bestunmoved.daykinds import come_at
from bestunmoved.helpers import need
from bestunmoved.kinds import is_below, is_integer, is_number, is_sized


def is_ship(day, thing):
    """Whether thing is a pair: the hour of the day at which a ship leaves, and how long it takes."""
    return is_sized(2, thing) and is_below(day, thing[0]) and is_number(thing[1])


def need_ships(day, ships):
    """The parameter ships has to be a tuple of ships, at least one."""
    need(isinstance(ships, tuple) and len(ships) > 0 and all([is_ship(day, ship) for ship in ships]), "ships")


def ship_delays(day, ships):
    """The delays of letters that go with the ship that comes first.

    Of one ship, the first time at which it leaves will do: later on it only comes later.
    """
    need_ships(day, ships)
    return tuple([min([(leave - hour) % day + take for leave, take in ships]) for hour in range(day)])


def same_delays(day, units):
    """The delays that are units at each hour."""
    need(is_number(units), "units")
    return (units,) * day


def first_comings(ways, place, hour):
    """For each place the first hour at which a letter given at place at the hour has come, at the latest; or None."""
    comings = [None for _ in ways]
    comings[place] = hour
    for _ in ways:
        for here, row in enumerate(ways):
            for there, delays in enumerate(row):
                if comings[here] is None or delays is None:
                    continue
                come = come_at(delays, comings[here])
                if comings[there] is None or come < comings[there]:
                    comings[there] = come
    return comings


def closed_row(day, ways, place):
    """The delays from the place to each one, with handing on."""
    comings = [first_comings(ways, place, hour) for hour in range(day)]
    row = []
    for there in range(len(ways)):
        if comings[0][there] is None:
            row.append(None)
        else:
            row.append(tuple([comings[hour][there] - hour for hour in range(day)]))
    return tuple(row)


def closed_delays(day, ways):
    """The ways closed by handing on: for each hour the least delay by any steps."""
    return tuple([closed_row(day, ways, place) for place in range(len(ways))])


def coming(delays, hour):
    """The hour at which a letter given at the hour has come at the latest."""
    need(is_integer(hour), "hour")
    return come_at(delays, hour)
