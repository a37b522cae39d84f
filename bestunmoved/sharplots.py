"""Sharp lots: those that some waits leave barred alone."""

from bestunmoved.covers import best_cover, cover_worth, inner_worths, worths_of_lots
from bestunmoved.helpers import need, need_grain, need_numbers
from bestunmoved.kinds import is_lot


def lot_worths(table):
    """The lots that have a lot worth, with it, ascending."""
    return tuple(worths_of_lots(table))


def is_kept_lot(scale, numbers, pair):
    """Whether the waits (scale, numbers) keep the lot of the pair, by its lot worth."""
    lot, worth = pair
    return sum([numbers[door] for door in lot]) >= scale * worth


def keeps_lots(table, scale, numbers):
    """Whether the waits (scale, numbers) keep all lots that have a lot worth."""
    need_grain(scale, "scale")
    need_numbers(len(table), numbers, "numbers")
    return all([is_kept_lot(scale, numbers, pair) for pair in worths_of_lots(table)])


def worth_in(worths, lot):
    """The lot worth of lot among the pairs, or None."""
    found = [worth for other, worth in worths if other == lot]
    return found[0] if len(found) > 0 else None


def need_worth_lot(table, worths, lot):
    """The parameter lot has to be a lot of doors of the table with a lot worth."""
    need(is_lot(len(table), lot) and worth_in(worths, lot) is not None, "lot")


def paper_of(table, worths, lot):
    """Waits in a scale that keep all other lots, but not this one; None if it is not sharp."""
    inner = inner_worths(worths, lot)
    scale, numbers, waits = best_cover(inner, lot)
    if cover_worth(inner, numbers) >= scale * worth_in(worths, lot):
        return None
    # A door outside of lot keeps all lots that it is in.
    outside = scale * max([0] + [worth for _, worth in worths])
    shares = [outside for _ in table]
    for door, wait in zip(lot, waits):
        shares[door] = wait
    return (scale, tuple(shares))


def sharp_lots(table):
    """The lots that are sharp, with their lot worths, ascending."""
    worths = worths_of_lots(table)
    return tuple([pair for pair in worths if paper_of(table, worths, pair[0]) is not None])


def sharp_paper(table, lot):
    """Any waits in a scale that keep all other lots that have a lot worth, but not this one; None without any."""
    worths = worths_of_lots(table)
    need_worth_lot(table, worths, lot)
    return paper_of(table, worths, lot)


def cover_paper(table, lot):
    """Any pair (scale, rows) of inner lots and their numbers that cover the lot; None if it is sharp."""
    worths = worths_of_lots(table)
    need_worth_lot(table, worths, lot)
    if paper_of(table, worths, lot) is not None:
        return None
    inner = inner_worths(worths, lot)
    scale, numbers, _ = best_cover(inner, lot)
    rows = [(small, number) for (small, _), number in zip(inner, numbers) if number > 0]
    return (scale, tuple(rows))
