"""Rings of parts and places in the picture of a parting."""

from bestunmoved.partings import names_of, need_parting


def places_of(places, parting, part):
    """The places of the doors of the part, as a list, ascending."""
    return sorted(set([place for place, name in zip(places, parting) if name == part]))


def walks_on(pictures, walk):
    """The walks of pairs (part, place) with one more, whose part has a door at the last place."""
    parts = [part for part, _ in walk]
    passed = [place for _, place in walk]
    more = []
    for part, stood in pictures:
        if part not in parts and passed[-1] in stood:
            more.extend([walk + ((part, place),) for place in stood if place not in passed])
    return more


def picture_ring(places, parting):
    """Any ring of pairs (part, place), each part standing at its place and at the one before; or None."""
    need_parting(len(places), parting)
    pictures = [(part, places_of(places, parting, part)) for part in names_of(parting)]
    walks = [((part, place),) for part, stood in pictures for place in stood]
    while len(walks) > 0:
        walk = walks.pop()
        if len(walk) > 1 and walk[-1][1] in places_of(places, parting, walk[0][0]):
            return walk
        walks.extend(walks_on(pictures, walk))
    return None
