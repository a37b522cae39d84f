"""Lags that show duties to be safe for a parting."""

from bestunmoved.errors import InvalidPaper
from bestunmoved.judging import falling_ring, least_heights
from bestunmoved.kinds import is_integers, is_sized
from bestunmoved.partings import need_parting


def lag_costs(duties, parting):
    """The costs that lags suit, as in judging: starts are heights, and ends are heights with a minus.

    Nodes 0 to n - 1 are the starts, nodes n to 2 n - 1 the ends. No duty within a part is endless.
    """
    many = len(duties)
    costs = [[None] * (2 * many) for _ in range(2 * many)]
    for door, row in enumerate(duties):
        for other, duty in enumerate(row):
            if parting[door] == parting[other]:
                costs[many + other][door] = -duty
            else:
                costs[door][many + other] = duty
    return costs


def is_endless_within(duties, parting):
    """Whether a duty within a part is endless."""
    doors = range(len(duties))
    return any([duties[x][y] is None and parting[x] == parting[y] for x in doors for y in doors])


def lags_of(duties, parting):
    """Any lags, or None if there are none."""
    need_parting(len(duties), parting)
    if is_endless_within(duties, parting):
        return None
    costs = lag_costs(duties, parting)
    if falling_ring(costs) is not None:
        return None
    heights = least_heights(costs)
    return (heights[:len(duties)], tuple([-height for height in heights[len(duties):]]))


def is_lagged(duty, lag, inner):
    """Whether the lag is as it has to be beside the duty, an inner one or one across."""
    if duty is None:
        return not inner
    return lag >= duty if inner else lag <= duty


def lets_lags(duties, parting, thing):
    """How many doors there are; InvalidPaper unless thing is lags."""
    many = len(duties)
    need_parting(many, parting)
    if not is_sized(2, thing):
        raise InvalidPaper("shape", -1)
    starts, ends = thing
    if not is_integers(many, starts):
        raise InvalidPaper("starts", -1)
    if not is_integers(many, ends):
        raise InvalidPaper("ends", -1)
    for door, row in enumerate(duties):
        for other, duty in enumerate(row):
            if not is_lagged(duty, starts[door] + ends[other], parting[door] == parting[other]):
                raise InvalidPaper("pair", door * many + other)
    return many
