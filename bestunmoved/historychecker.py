"""The checker of histories."""

from bestunmoved.errors import InvalidPaper
from bestunmoved.historykinds import fault_of, history_flaw


def lets_history(house, thing):
    """How many deeds there are; InvalidPaper unless thing is a history of the house, without faults."""
    flaw = history_flaw(house, thing)
    if flaw is not None:
        raise InvalidPaper(flaw[0], flaw[1])
    fault = fault_of(house, thing)
    if fault is not None:
        raise InvalidPaper(fault[2], fault[0])
    return len(thing)
