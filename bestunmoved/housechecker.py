"""The checker of houses."""

from bestunmoved.errors import InvalidPaper
from bestunmoved.kinds import house_fault


def lets_house(thing):
    """How many doors the house has; InvalidPaper for the first fault of what is none."""
    fault = house_fault(thing)
    if fault is not None:
        raise InvalidPaper(fault[0], fault[1])
    return len(thing[2])
