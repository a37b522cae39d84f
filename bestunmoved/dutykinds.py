"""Duties: what they are, and four common ones."""

from bestunmoved.helpers import need_numbers
from bestunmoved.kinds import duties_fault


def is_duties(size, thing):
    """Whether thing is duties for size doors."""
    return duties_fault(size, thing) is None


def free_duties(size):
    """Duties that are endless between all unlike doors."""
    doors = range(size)
    return tuple([tuple([0 if door == other else None for other in doors]) for door in doors])


def prompt_duties(size):
    """Duties that are all 0."""
    return tuple([(0,) * size for _ in range(size)])


def counter_duties(places):
    """Duties of 0 between doors of one place, endless otherwise."""
    return tuple([tuple([0 if place == other else None for other in places]) for place in places])


def lag_duties(starts, ends):
    """Duties from each door to an unlike one of the start of the one and the end of the other, added."""
    need_numbers(len(starts), ends, "ends")
    doors = range(len(starts))
    return tuple([tuple([0 if one == other else starts[one] + ends[other] for other in doors]) for one in doors])
