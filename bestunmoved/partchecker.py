"""The checker of what shows that duties are not safe."""

from bestunmoved.errors import InvalidPaper
from bestunmoved.kinds import is_below, is_sized
from bestunmoved.partings import need_parting
from bestunmoved.rings import ring_steps


def pair_word(parting, earlier, pair):
    """The word of what is wrong with a pair behind the earlier ones, or None."""
    if not is_sized(2, pair) or not all([is_below(len(parting), door) for door in pair]):
        return "pair"
    part = parting[pair[0]]
    if parting[pair[1]] != part or part in [parting[end] for end, _ in earlier]:
        return "part"
    return None


def sum_of(spans):
    """The sum of the spans, a list of numbers and None; None, endless, if one of them is."""
    return None if None in spans else sum(spans)


def lets_unsafe(duties, parting, thing):
    """The pair (within, across); InvalidPaper unless thing is pairs (end, begin) with more within than across."""
    need_parting(len(duties), parting)
    if not isinstance(thing, tuple) or len(thing) < 2:
        raise InvalidPaper("shape", -1)
    for at, pair in enumerate(thing):
        word = pair_word(parting, thing[:at], pair)
        if word is not None:
            raise InvalidPaper(word, at)
    within = sum_of([duties[end][begin] for end, begin in thing])
    across = sum_of([duties[one[0]][other[1]] for one, other in ring_steps(thing)])
    if across is None:
        raise InvalidPaper("across", -1)
    if within is not None and within <= across:
        raise InvalidPaper("safe", -1)
    return (within, across)
