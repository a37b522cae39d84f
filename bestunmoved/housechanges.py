"""Houses changed: longer ways, other duties, a further door."""

from bestunmoved.helpers import need, need_below, need_heard
from bestunmoved.kinds import duties_fault, is_below, is_lot, is_number, is_sized, is_span


def later_way(way, units, same):
    """The way, longer by units unless it is None or to the same place."""
    return way if way is None or same else way + units


def later_house(house, units):
    """The house with all ways between unlike places longer by units."""
    need(is_number(units), "units")
    ways = []
    for here, row in enumerate(house[0]):
        ways.append(tuple([later_way(way, units, here == there) for there, way in enumerate(row)]))
    return (tuple(ways), house[1], house[2], house[3])


def handed_on(ways, here, there):
    """The least sum of the ways from here to a third place and from that to there, or None."""
    sums = []
    for third, row in enumerate(ways):
        if third != here and third != there and ways[here][third] is not None and row[there] is not None:
            sums.append(ways[here][third] + row[there])
    return min(sums) if len(sums) > 0 else None


def is_longer(ways, here, there, units):
    """Whether the way from here to there may be longer by units, handing on still never helping."""
    if not is_number(units):
        return False
    most = handed_on(ways, here, there)
    return most is None or ways[here][there] + units <= most


def lengthened(house, here, there, units):
    """The house with the way from here to there alone longer by units."""
    ways = house[0]
    need_below(len(ways), here, "here")
    need(is_below(len(ways), there) and there != here and ways[here][there] is not None, "there")
    need(is_longer(ways, here, there, units), "units")
    rows = [list(row) for row in ways]
    rows[here][there] = rows[here][there] + units
    return (tuple([tuple(row) for row in rows]), house[1], house[2], house[3])


def with_duties(house, duties):
    """The house with other duties."""
    need(duties_fault(len(house[2]), duties) is None, "duties")
    return (house[0], house[1], house[2], duties)


def is_spans(many, thing):
    """Whether thing is a tuple of many numbers or None."""
    return is_sized(many, thing) and all([is_span(span) for span in thing])


def with_door(house, place, writes, looks, out, back):
    """The house with a further door, the last; out and back are the duties from it and to it."""
    ways, books, doors, duties = house
    need_below(len(ways), place, "place")
    need(is_lot(len(books), writes), "writes")
    need(is_lot(len(books), looks), "looks")
    need(is_spans(len(doors), out), "out")
    need(is_spans(len(doors), back), "back")
    more = doors + ((place, writes, looks),)
    need_heard(ways, more)
    rows = [row + (span,) for row, span in zip(duties, back)]
    return (ways, books, more, tuple(rows) + (out + (0,),))
