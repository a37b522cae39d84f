"""Runs that break programs with barred waits."""

from bestunmoved.askkinds import by_moment, is_asks
from bestunmoved.errors import InvalidPaper
from bestunmoved.forced import pairs_forced
from bestunmoved.historykinds import is_history
from bestunmoved.kinds import is_below, is_sized
from bestunmoved.news import news_by
from bestunmoved.orders import are_ring_deeds, order_or_ring, unforced_place
from bestunmoved.programs import need_program, programmed_run, waits_by
from bestunmoved.ringpapers import ring_paper
from bestunmoved.tables import table_of


def latest_run(house, program, asks):
    """The history that the program leaves, its grain the number of doors, all letters as late as told."""
    grain = len(house[2])
    return programmed_run(house, grain, program, asks, news_by(house, grain, asks))


def breaking_run(house, program):
    """Any triple (asks, history, ring) that breaks the program, or None if its waits are kept."""
    need_program(house, program)
    grain = len(house[2])
    moments = ring_paper(table_of(house), grain, waits_by(program))
    if moments is None:
        return None
    asks = by_moment(moments)
    history = latest_run(house, program, asks)
    return (asks, history, order_or_ring(house, grain, history)[1])


def is_asked_once(house, thing):
    """Whether thing is asks of the house, no door being asked twice."""
    return is_asks(house, thing) and len(set([ask[0] for ask in thing])) == len(thing)


def is_deed_ring(house, grain, history, thing):
    """Whether thing is a ring of deeds of the history, which has no faults."""
    if not isinstance(thing, tuple) or not all([is_below(len(history), deed) for deed in thing]):
        return False
    return are_ring_deeds(thing) and unforced_place(thing, pairs_forced(house, grain, history)) is None


def lets_break(house, program, thing):
    """The ring; InvalidPaper unless thing is asks, the history that the program leaves, and a ring of its deeds."""
    need_program(house, program)
    if not is_sized(3, thing):
        raise InvalidPaper("shape", -1)
    asks, history, ring = thing
    if not is_asked_once(house, asks):
        raise InvalidPaper("asks", -1)
    # True is not 1: it is asked to be a history before it is compared.
    if not is_history(house, history) or history != latest_run(house, program, asks):
        raise InvalidPaper("history", -1)
    if not is_deed_ring(house, len(house[2]), history, ring):
        raise InvalidPaper("ring", -1)
    return ring
