"""Orders and rings of deeds."""

from bestunmoved.forced import need_grain_history, pairs_forced
from bestunmoved.historykinds import need_faultless
from bestunmoved.judging import ring_behind
from bestunmoved.kinds import is_order
from bestunmoved.rings import ring_steps


def least_order(many, pairs):
    """Of so many deeds the least order in which no pair is reversed, as far as it goes, as a list."""
    waiting = [0 for _ in range(many)]
    for _, other in pairs:
        waiting[other] += 1
    order = []
    while 0 in waiting:
        deed = waiting.index(0)
        order.append(deed)
        # Below 0 it is not taken again.
        waiting[deed] = -1
        for one, other in pairs:
            if one == deed:
                waiting[other] -= 1
    return order


def ring_left(many, pairs, order):
    """Any ring of the deeds that the least order leaves; None if it leaves none."""
    left = [deed for deed in range(many) if deed not in order]
    if len(left) == 0:
        return None
    # A deed is left only because one that is left is forced ahead of it.
    befores = {other: one for one, other in pairs if one in left and other in left}
    return ring_behind(befores, left[0])


def order_or_ring(house, grain, history):
    """A pair, of a history without faults: its least order, or None; any ring of its deeds, or None."""
    pairs = pairs_forced(house, grain, history)
    order = least_order(len(history), pairs)
    ring = ring_left(len(history), pairs, order)
    return (tuple(order) if ring is None else None, ring)


def order_of(house, grain, history):
    """The least order of the history, or None."""
    need_grain_history(house, grain, history)
    need_faultless(house, history)
    return order_or_ring(house, grain, history)[0]


def reversed_place(order, pairs):
    """The first place in the order of a deed that is forced ahead of one at a place before; or None."""
    places = {deed: at for at, deed in enumerate(order)}
    wrong = [places[one] for one, other in pairs if places[one] > places[other]]
    return min(wrong, default=None)


def keeps_order(house, grain, history, thing):
    """Whether thing is an order of the history."""
    need_grain_history(house, grain, history)
    need_faultless(house, history)
    if not is_order(len(history), thing):
        return False
    return reversed_place(thing, pairs_forced(house, grain, history)) is None


def are_ring_deeds(deeds):
    """Whether these are at least two deeds, all different."""
    return len(deeds) > 1 and len(set(deeds)) == len(deeds)


def unforced_place(ring, pairs):
    """The first place in the ring of a deed that is not forced ahead of the next one, or None."""
    for at, step in enumerate(ring_steps(ring)):
        if step not in pairs:
            return at
    return None


def deed_ring(house, grain, history):
    """Any ring of deeds, or None if the history has an order."""
    need_grain_history(house, grain, history)
    need_faultless(house, history)
    return order_or_ring(house, grain, history)[1]
