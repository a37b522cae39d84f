"""The checker of dayhouses."""

from bestunmoved.daykinds import day_fault
from bestunmoved.errors import InvalidPaper


def lets_dayhouse(thing):
    """How many doors the dayhouse has; InvalidPaper for the first fault of what is none."""
    fault = day_fault(thing)
    if fault is not None:
        raise InvalidPaper(fault[0], fault[1])
    return len(thing[3])
