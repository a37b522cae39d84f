"""Spoilt answers, and what they lack."""

from bestunmoved.helpers import need_below
from bestunmoved.stampruns import need_run, run_by
from bestunmoved.standings import due_by


def unlike_deeds(due, run):
    """The lot of the deeds that show something else in the one history than in the other."""
    return tuple([deed for deed in range(len(due)) if due[deed][3] != run[deed][3]])


def spoilt_deeds(house, grain, waits, stamps, asks, news):
    """The lot of the deeds whose answers in the run are spoilt."""
    need_run(house, grain, waits, stamps, asks, news)
    return unlike_deeds(due_by(house, grain, waits, stamps, asks), run_by(house, grain, waits, stamps, asks, news))


def lacked_by(house, grain, waits, stamps, asks, news, deed):
    """The lot of the deeds that the deed shows when that is due, in some book, and not in the run."""
    need_run(house, grain, waits, stamps, asks, news)
    need_below(len(asks), deed, "deed")
    due = due_by(house, grain, waits, stamps, asks)[deed][3]
    shown = run_by(house, grain, waits, stamps, asks, news)[deed][3]
    lacked = []
    for fine, found in zip(due, shown):
        lacked.extend([one for one in fine if one not in found])
    return tuple(sorted(set(lacked)))
