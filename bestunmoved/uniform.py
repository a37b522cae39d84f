"""Houses in which all duties are 0 and all ways are alike."""

from bestunmoved.cheapwaits import deal_paper
from bestunmoved.dealings import dearest_by, worth_dealt
from bestunmoved.helpers import need, need_numbers
from bestunmoved.sights import far_pairs
from bestunmoved.tables import table_of


def far_ways(house):
    """All entries of the ways between unlike places."""
    return [way for here, row in enumerate(house[0]) for there, way in enumerate(row) if here != there]


def is_uniform(house):
    """Whether all duties are 0 and some number is each way between unlike places."""
    ways = far_ways(house)
    if any([duty != 0 for row in house[3] for duty in row]):
        return False
    return len(ways) == 0 or (ways[0] is not None and ways.count(ways[0]) == len(ways))


def sight_table(house):
    """The table of the house with 1 for the far pairs, 0 for its other entries."""
    rows = [[None if entry is None else 0 for entry in row] for row in table_of(house)]
    for door, other in far_pairs(house):
        rows[door][other] = 1
    return rows


def sight_most(house, rates):
    """The greatest sum of the numbers at far pairs of a dealing by rates."""
    need_numbers(len(house[2]), rates, "rates")
    table = sight_table(house)
    return worth_dealt(table, dearest_by(table, rates))


def uniform_waits(house, rates):
    """Any kept waits of least cost, each 0, the way between unlike places or twice it.

    A wait is cut into a front, above its stamp, and a back, the stamp; a front and a back are together at least
    the entry from the one door to the other. With ways of 1, fronts are within 1 of each other if they are as
    small as the backs let; so are backs that are then as small as the fronts let, and no two are above 2 together.
    """
    need(is_uniform(house), "house")
    need_numbers(len(house[2]), rates, "rates")
    table = sight_table(house)
    stamps = deal_paper(table, rates)[1]
    fronts = [max([entry - stamp for entry, stamp in zip(row, stamps)]) for row in table]
    backs = [max([row[door] - front for row, front in zip(table, fronts)]) for door in range(len(table))]
    way = max(far_ways(house), default=0)
    return tuple([way * (front + back) for front, back in zip(fronts, backs)])
