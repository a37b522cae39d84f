"""All rings of a table, gone through."""

from bestunmoved.helpers import need_lot
from bestunmoved.rings import ring_worth


def all_rings(table):
    """All rings, each beginning with its least door, ascending."""
    many = len(table)
    walks = [(door,) for door in range(many - 1, -1, -1)]
    while len(walks) > 0:
        walk = walks.pop()
        first = walk[0]
        last = walk[-1]
        if len(walk) > 1 and table[last][first] is not None:
            yield walk
        for other in range(many - 1, first, -1):
            if other not in walk and table[last][other] is not None:
                walks.append(walk + (other,))


def dearest_ring(table, lot):
    """Any ring of all doors of lot, and no others, of greatest worth; or None."""
    need_lot(len(table), lot)
    best = None
    for ring in all_rings(table):
        if sorted(ring) == list(lot) and (best is None or ring_worth(table, ring) > ring_worth(table, best)):
            best = ring
    return best
