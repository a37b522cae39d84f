"""Whether dayrows are kept; barring rings of hours, and day stamps that suit.

Day stamps are judged as heights are in judging. Costs go from each hour of the day of each door to each; an hour
of the day stands for all hours with this rest. The steps around a ring of costs lead from an hour to the same
hour of the day some days later; the ring is below 0 exactly if they do not lead to a later day.
"""

from bestunmoved.dayarcs import first_by_day, need_dayrows
from bestunmoved.errors import Barred
from bestunmoved.judging import falling_ring, least_heights


def costs_from(dayhouse, dayrows, one):
    """The costs from the hour one to each hour of the day of each door: what its day stamp is above theirs at most."""
    day = dayhouse[0]
    many = len(dayhouse[3])
    costs = []
    for door in range(many):
        first = first_by_day(dayhouse, dayrows, one, door)
        if first is None:
            costs.extend([None] * day)
        else:
            hours = [first + (rest - first) % day for rest in range(day)]
            costs.extend([many * (hour - one[1]) - 1 for hour in hours])
    return costs


def day_costs(dayhouse, dayrows):
    """The costs that day stamps suit, those of the hours of a door one behind the other."""
    doors = range(len(dayhouse[3]))
    hours = range(dayhouse[0])
    return [costs_from(dayhouse, dayrows, (door, hour)) for door in doors for hour in hours]


def hours_around(dayhouse, costs, ring):
    """The hours, as pairs with their doors, to which the steps of a ring of costs lead."""
    day = dayhouse[0]
    hours = [ring[0] % day]
    for node, upcoming in zip(ring, ring[1:]):
        hours.append(hours[-1] + (costs[node][upcoming] + 1) // len(dayhouse[3]))
    return tuple([(node // day, hour) for node, hour in zip(ring, hours)])


def twice_at(ring):
    """The first two places of a ring of hours that have one door, or None."""
    for at, step in enumerate(ring):
        for later in range(at + 1, len(ring)):
            if ring[later][0] == step[0]:
                return (at, later)
    return None


def with_doors_once(ring):
    """What is left of a ring of hours when no door is in it twice.

    Of two hours of one door the later one stays: what is surely ahead of the other one is so of this one, too.
    """
    once = ring
    places = twice_at(once)
    while places is not None:
        at, later = places
        if once[later][1] >= once[at][1]:
            once = once[later:] + once[:at]
        else:
            once = once[at:later]
        places = twice_at(once)
    return once


def ring_by_day(dayhouse, dayrows):
    """Any barring ring of hours of at least 0, or None."""
    costs = day_costs(dayhouse, dayrows)
    nodes = falling_ring(costs)
    if nodes is None:
        return None
    ring = with_doors_once(hours_around(dayhouse, costs, nodes))
    day = dayhouse[0]
    # By whole days alone, so that the hours of the day stay.
    early = min([hour for _, hour in ring]) // day * day
    return tuple([(door, hour - early) for door, hour in ring])


def need_day_kept(dayhouse, dayrows):
    """Raises Barred with a barring ring of hours, if there is one."""
    ring = ring_by_day(dayhouse, dayrows)
    if ring is not None:
        raise Barred(ring)


def day_ring(dayhouse, dayrows):
    """Any barring ring of hours of at least 0, or None if the dayrows are kept."""
    need_dayrows(dayhouse, dayrows)
    return ring_by_day(dayhouse, dayrows)


def day_kept(dayhouse, dayrows):
    """Whether the dayrows are kept."""
    return day_ring(dayhouse, dayrows) is None


def day_stamps(dayhouse, dayrows):
    """Any day stamps that suit."""
    need_dayrows(dayhouse, dayrows)
    need_day_kept(dayhouse, dayrows)
    day = dayhouse[0]
    heights = least_heights(day_costs(dayhouse, dayrows))
    return tuple([heights[door * day:door * day + day] for door in range(len(dayhouse[3]))])
