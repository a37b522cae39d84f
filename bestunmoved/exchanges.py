"""Gains that are the same, and parts that tell gains apart."""


def same_gains(gains, other):
    """Whether the gains are equal."""
    return gains == other


def unlike_place(gains, other):
    """The first pair (begin, end) at which gains of as many doors are unlike."""
    for begin, row in enumerate(gains):
        for end, gain in enumerate(row):
            if gain != other[begin][end]:
                return (begin, end)
    return None


def barring_gain(one, other):
    """A number that, added, puts the greater one of two unlike gains above 0, and not the other one."""
    if one is None:
        return 1 - other
    if other is None:
        return 1 - one
    return -min(one, other)


def only_link(rows, columns, at):
    """The links of so many rows and columns that are None but for 0 at a place (row, column)."""
    links = [[None] * columns for _ in range(rows)]
    links[at[0]][at[1]] = 0
    return tuple([tuple(row) for row in links])


def telling_part(gains, other):
    """Any part (table, waits, outer, there, back) that, linked, makes just one of both None; None if they are equal.

    Its doors 0 and 1 have one entry between them. Linked from the end of a gain to door 0 and from door 1 back to
    the begin, all paths around go by this gain and this entry.
    """
    if same_gains(gains, other):
        return None
    if gains is None or other is None:
        many = len(other if gains is None else gains)
        return (((0,),), (0,), (0,), ((None,),) * many, ((None,) * many,))
    begin, end = unlike_place(gains, other)
    entry = barring_gain(gains[begin][end], other[begin][end])
    there = only_link(len(gains), 2, (end, 0))
    back = only_link(2, len(gains), (1, begin))
    return (((0, entry), (None, 0)), (0, 0), (0, 1), there, back)
