"""The checker of verdicts."""

from bestunmoved.errors import InvalidPaper
from bestunmoved.forced import need_grain_history, pairs_forced
from bestunmoved.historykinds import fault_of
from bestunmoved.kinds import is_below, is_integer, is_order, is_sized
from bestunmoved.orders import are_ring_deeds, reversed_place, unforced_place


def has_shape(many, thing):
    """Whether thing is an order or a ring of some of many deeds, or a fault, behind the word."""
    if is_sized(4, thing):
        return thing[0] == "fault"
    if not is_sized(2, thing) or (thing[0] != "order" and thing[0] != "ring"):
        return False
    return isinstance(thing[1], tuple) and all([is_below(many, deed) for deed in thing[1]])


def is_verdict(fault, thing):
    """Whether thing, of the right shape, is a fault exactly if there is one, and then that one."""
    if fault is None:
        return thing[0] != "fault"
    # True is not 1: numbers are asked to be integers before they are compared.
    return is_sized(4, thing) and is_integer(thing[1]) and is_integer(thing[2]) and thing == ("fault",) + fault


def check_order(many, pairs, order):
    """Raises InvalidPaper unless order is an order of so many deeds in which no pair is reversed."""
    if not is_order(many, order):
        raise InvalidPaper("order", -1)
    place = reversed_place(order, pairs)
    if place is not None:
        raise InvalidPaper("ahead", place)


def check_ring(pairs, ring):
    """Raises InvalidPaper unless ring is at least two different deeds, each step one of the pairs."""
    if not are_ring_deeds(ring):
        raise InvalidPaper("ring", -1)
    place = unforced_place(ring, pairs)
    if place is not None:
        raise InvalidPaper("forced", place)


def lets_verdict(house, grain, history, thing):
    """The word of thing; InvalidPaper unless it is the first fault, or an order, or a ring of deeds."""
    need_grain_history(house, grain, history)
    if not has_shape(len(history), thing):
        raise InvalidPaper("shape", -1)
    fault = fault_of(house, history)
    if not is_verdict(fault, thing):
        raise InvalidPaper("fault", -1)
    if fault is None:
        pairs = pairs_forced(house, grain, history)
        if thing[0] == "order":
            check_order(len(history), pairs, thing[1])
        else:
            check_ring(pairs, thing[1])
    return thing[0]
