"""Sights: which doors see and hear which, and what stands where."""

from bestunmoved.helpers import need_below
from bestunmoved.kinds import common_books


def need_two_doors(house, door, other):
    """The parameters door and other have to be doors, perhaps the same."""
    need_below(len(house[2]), door, "door")
    need_below(len(house[2]), other, "other")


def shared_books(house, door, other):
    """The lot of the books that door looks at and other writes."""
    need_two_doors(house, door, other)
    return common_books(house[2][door], house[2][other])


def sees(house, door, other):
    """Whether door sees other."""
    return shared_books(house, door, other) != ()


def hears(house, door, other):
    """The way from the place of other to that of door, or None."""
    need_two_doors(house, door, other)
    return house[0][house[2][other][0]][house[2][door][0]]


def sight_pairs(house):
    """All pairs (door, other) of unlike doors of which door sees other, ascending."""
    doors = house[2]
    pairs = []
    for door, looker in enumerate(doors):
        for other, writer in enumerate(doors):
            if door != other and common_books(looker, writer) != ():
                pairs.append((door, other))
    return tuple(pairs)


def far_pairs(house):
    """Those pairs of sight_pairs that stand at unlike places."""
    doors = house[2]
    return tuple([pair for pair in sight_pairs(house) if doors[pair[0]][0] != doors[pair[1]][0]])


def doors_at(house, place):
    """The lot of the doors at place."""
    need_below(len(house[0]), place, "place")
    return tuple([at for at, door in enumerate(house[2]) if door[0] == place])


def seen_at(house, place):
    """The lot of the doors that some door at place sees."""
    doors = house[2]
    lookers = [doors[at] for at in doors_at(house, place)]
    return tuple([at for at, door in enumerate(doors) if any([common_books(one, door) != () for one in lookers])])
