"""Verdicts on histories."""

from bestunmoved.forced import need_grain_history
from bestunmoved.historykinds import fault_of
from bestunmoved.orders import order_or_ring


def verdict_of(house, grain, history):
    """The first fault of the history, or any order of it, or any ring of its deeds, each behind its word."""
    need_grain_history(house, grain, history)
    fault = fault_of(house, history)
    if fault is not None:
        return ("fault",) + fault
    order, ring = order_or_ring(house, grain, history)
    return ("ring", ring) if order is None else ("order", order)
