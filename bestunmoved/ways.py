"""Ways: closed by handing on, and asked of a house."""

from bestunmoved.helpers import least_sums, need_below


def closed_ways(ways):
    """The ways that have from each place to each other one the least sum along a walk."""
    return least_sums(ways)


def way_of(house, here, there):
    """The way of the house from here to there, or None."""
    ways = house[0]
    need_below(len(ways), here, "here")
    need_below(len(ways), there, "there")
    return ways[here][there]
