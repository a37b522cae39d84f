"""Mean worths of rings, and one wait for all doors."""

from math import gcd


def longer_sums(table, sums):
    """For each door the greatest sum along a walk one step longer that ends there, or None."""
    longer = [None for _ in table]
    for door, row in enumerate(table):
        for other, entry in enumerate(row):
            if door == other or entry is None or sums[door] is None:
                continue
            if longer[other] is None or longer[other] < sums[door] + entry:
                longer[other] = sums[door] + entry
    return longer


def is_above(mean, other):
    """Whether the quotient mean is above other, their bottoms being above 0."""
    return mean[0] * other[1] > other[0] * mean[1]


def least_gain(sums, door):
    """The least mean step from a shorter walk to door to one of as many steps as doors; None without that one."""
    many = len(sums) - 1
    last = sums[many][door]
    if last is None:
        return None
    least = (last - sums[0][door], many)
    for steps in range(1, many):
        # There are shorter walks, too: the ends of the long one.
        gain = (last - sums[steps][door], many - steps)
        if is_above(least, gain):
            least = gain
    return least


def dearest_mean(table):
    """The greatest quotient of a ring's worth by its number of doors, or None without a ring.

    By Karp: it is the greatest, over the doors, of the least gains.
    """
    sums = [[0 for _ in table]]
    for _ in table:
        sums.append(longer_sums(table, sums[-1]))
    best = None
    for door in range(len(table)):
        gain = least_gain(sums, door)
        if gain is not None and (best is None or is_above(gain, best)):
            best = gain
    if best is None:
        return None
    common = gcd(best[0], best[1])
    return (best[0] // common, best[1] // common)


def even_wait(table):
    """The least number that all doors can have alike as kept waits."""
    mean = dearest_mean(table)
    return 0 if mean is None else max(0, -(-mean[0] // mean[1]))
