"""The checker of barring rings."""

from bestunmoved.coarse import need_grain_waits
from bestunmoved.errors import InvalidPaper
from bestunmoved.judging import waiting_costs
from bestunmoved.kinds import is_below, is_number, is_sized
from bestunmoved.rings import ring_steps


def element_word(many, earlier, element):
    """The word of what is wrong with an element behind the earlier ones, or None."""
    if not is_sized(2, element):
        return "step"
    if not is_below(many, element[0]) or element[0] in [door for door, _ in earlier]:
        return "door"
    return None if is_number(element[1]) else "moment"


def is_ahead(costs, grain, moment, other):
    """Whether moment is surely ahead of other, of an unlike door, by the costs of the waits."""
    cost = costs[moment[0]][other[0]]
    return cost is not None and other[1] > moment[1] + grain * cost


def lets_ring(table, grain, waits, thing):
    """The doors of the ring; InvalidPaper unless thing is a barring ring whose moments are numbers."""
    need_grain_waits(table, grain, waits)
    if not isinstance(thing, tuple) or len(thing) < 2:
        raise InvalidPaper("shape", -1)
    for at, element in enumerate(thing):
        word = element_word(len(table), thing[:at], element)
        if word is not None:
            raise InvalidPaper(word, at)
    costs = waiting_costs(table, waits)
    for at, (moment, other) in enumerate(ring_steps(thing)):
        if not is_ahead(costs, grain, moment, other):
            raise InvalidPaper("ahead", at)
    return tuple([moment[0] for moment in thing])
