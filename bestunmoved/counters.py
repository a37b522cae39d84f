"""Houses and histories that show what duties that are not safe let happen.

Of each pair (end, begin) of an unsafe paper with two doors, the begin sees the end, and letters take as long as
the duty back. So the two of them can answer at once, while all pairs in turn cannot.
"""

from bestunmoved.partings import need_parting
from bestunmoved.partlaw import unsafe_pairs
from bestunmoved.rings import ring_steps


def across_sums(duties, pairs):
    """The duties from each end to the begin of the next pair, as a list."""
    return [duties[one[0]][other[1]] for one, other in ring_steps(pairs)]


def backs_of(duties, pairs):
    """For each pair how long letters take from its end to its begin, as a list.

    Where the duty is endless, any number may stand: one that is more than all across.
    """
    more = sum(across_sums(duties, pairs)) + 1
    return [more if duties[end][begin] is None else duties[end][begin] for end, begin in pairs]


def seeing_house(duties, pairs):
    """The house with these duties, each door at a place of its own, in which each begin sees its unlike end."""
    many = len(duties)
    ways = [[0 if place == other else None for other in range(many)] for place in range(many)]
    writes = [() for _ in duties]
    looks = [() for _ in duties]
    far = [pair for pair in pairs if pair[0] != pair[1]]
    for book, (end, begin) in enumerate(far):
        writes[end] = (book,)
        looks[begin] = (book,)
    for (end, begin), back in zip(pairs, backs_of(duties, pairs)):
        ways[end][begin] = back
    doors = [(door, writes[door], looks[door]) for door in range(many)]
    return (tuple([tuple(row) for row in ways]), ("row",) * len(far), tuple(doors), duties)


def counter_house(duties, parting):
    """Any pair (house, waits), the waits kept in each part and not as a whole; None if the duties are safe."""
    need_parting(len(duties), parting)
    pairs = unsafe_pairs(duties, parting)
    if pairs is None:
        return None
    turning = [door for pair in pairs for door in pair]
    # The doors beside wait so long that no ring with one of them bars.
    beside = sum(backs_of(duties, pairs))
    waits = [0 if door in turning else beside for door in range(len(duties))]
    return (seeing_house(duties, pairs), tuple(waits))


def end_moments(grain, duties, pairs):
    """When the deed of each end is asked, as a list: a beat more than the duty ahead of the next pair's begin."""
    moments = [0]
    for across, back in zip(across_sums(duties, pairs), backs_of(duties, pairs)[1:]):
        moments.append(moments[-1] + grain * (across - back) + 1)
    first = min(moments)
    return [moment - first for moment in moments]


def counter_history(duties, parting):
    """Any triple (house, grain, history), with an order in each part and none as a whole; None if they are safe."""
    need_parting(len(duties), parting)
    pairs = unsafe_pairs(duties, parting)
    if pairs is None:
        return None
    grain = len(duties)
    deeds = []
    for (end, begin), back, moment in zip(pairs, backs_of(duties, pairs), end_moments(grain, duties, pairs)):
        deeds.append((end, moment, moment, ()))
        if begin != end:
            later = moment + grain * back
            deeds.append((begin, later, later, ((),)))
    return (seeing_house(duties, pairs), grain, tuple(deeds))
