"""Whether duties are safe for a parting, and what shows that they are not."""

from bestunmoved.partings import names_of, need_parting


def endless_count(duties):
    """What an endless duty within a part counts: more than any duties across could add up to."""
    return 1 + sum([duty for row in duties for duty in row if duty is not None])


def counted(duties, end, begin):
    """What the duty from end to begin, within a part, counts."""
    duty = duties[end][begin]
    return endless_count(duties) if duty is None else duty


def pairs_in(parting, part):
    """All pairs (end, begin) of the part."""
    doors = [door for door, name in enumerate(parting) if name == part]
    return [(end, begin) for end in doors for begin in doors]


def longer_turns(duties, parting, turns):
    """The turns with one more part each, of several through the same parts to one end that of greatest gain.

    Turns are a dict: for the parts, ascending, and the last end the gain (what is within less what is across)
    and the pairs. Only parts above the first one are taken.
    """
    more = {}
    for (parts, end), (gain, pairs) in turns.items():
        for part in names_of(parting):
            if part in parts or part < parts[0]:
                continue
            for last, begin in pairs_in(parting, part):
                across = duties[end][begin]
                if across is None:
                    continue
                key = (tuple(sorted(parts + (part,))), last)
                now = gain - across + counted(duties, last, begin)
                if key not in more or more[key][0] < now:
                    more[key] = (now, pairs + ((last, begin),))
    return more


def closing_pairs(duties, turns, begin):
    """The pairs of any turns that, closed to their first begin, have more within than across; or None."""
    for (_, end), (gain, pairs) in turns.items():
        across = duties[end][begin]
        if across is not None and gain > across:
            return pairs
    return None


def unsafe_from(duties, parting, begin):
    """Any pairs that show the duties not to be safe, the first one, of the least part, with this begin; or None."""
    part = parting[begin]
    turns = {}
    for end, other in pairs_in(parting, part):
        if other == begin:
            turns[((part,), end)] = (counted(duties, end, begin), ((end, begin),))
    for _ in names_of(parting)[1:]:
        turns = longer_turns(duties, parting, turns)
        pairs = closing_pairs(duties, turns, begin)
        if pairs is not None:
            return pairs
    return None


def unsafe_pairs(duties, parting):
    """Any pairs that show the duties not to be safe for the parting, which is one; or None if they are safe."""
    for begin in range(len(duties)):
        pairs = unsafe_from(duties, parting, begin)
        if pairs is not None:
            return pairs
    return None


def unsafe_paper(duties, parting):
    """Any pairs (end, begin) with more within parts than across, or None if the duties are safe."""
    need_parting(len(duties), parting)
    return unsafe_pairs(duties, parting)


def is_safe(duties, parting):
    """Whether the duties are safe for the parting."""
    return unsafe_paper(duties, parting) is None
