"""Rings of tables: what they are, their worth and their slack."""

from bestunmoved.helpers import need, need_numbers
from bestunmoved.kinds import is_below


def ring_steps(ring):
    """The pairs of each member of the ring and the next one, the last one and the first."""
    return list(zip(ring, ring[1:] + ring[:1]))


def is_ring(table, thing):
    """Whether thing is a ring of the table."""
    if not isinstance(thing, tuple) or len(thing) < 2:
        return False
    if not all([is_below(len(table), door) for door in thing]) or len(set(thing)) < len(thing):
        return False
    return all([table[door][other] is not None for door, other in ring_steps(thing)])


def ring_worth(table, ring):
    """The worth of a ring that is one."""
    return sum([table[door][other] for door, other in ring_steps(ring)])


def worth_of(table, ring):
    """The worth of the ring: its entries, added."""
    need(is_ring(table, ring), "ring")
    return ring_worth(table, ring)


def slack_of(table, waits, ring):
    """The slack of the ring: its waits less its worth."""
    need_numbers(len(table), waits, "waits")
    need(is_ring(table, ring), "ring")
    return sum([waits[door] for door in ring]) - ring_worth(table, ring)
