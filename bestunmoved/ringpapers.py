"""Barring rings of moments."""

from bestunmoved.coarse import coarse_costs, need_grain_waits
from bestunmoved.judging import falling_ring, waiting_costs


def ring_moments(costs, grain, ring):
    """The moments of the ring, each a beat more than enough behind the one before, the least of them 0."""
    moments = [0]
    for door, other in zip(ring, ring[1:]):
        moments.append(moments[-1] + grain * costs[door][other] + 1)
    first = min(moments)
    return tuple([(door, moment - first) for door, moment in zip(ring, moments)])


def ring_paper(table, grain, waits):
    """Any barring ring whose moments are numbers, or None if the waits are kept at the grain."""
    need_grain_waits(table, grain, waits)
    ring = falling_ring(coarse_costs(table, grain, waits))
    if ring is None:
        return None
    return ring_moments(waiting_costs(table, waits), grain, ring)
