"""Open houses made anew of their logs."""

from bestunmoved.helpers import need
from bestunmoved.kinds import is_number
from bestunmoved.live import LiveHouse
from bestunmoved.liveevents import is_log


def replayed(house, grain, waits, stamps, log):
    """The open house behind the events of the log."""
    live = LiveHouse(house, grain, waits, stamps)
    need(is_log(log), "log")
    live.do_all(log)
    return live


def cut_log(log, many):
    """The pair of the first many events of the log and the others."""
    need(is_log(log), "log")
    need(is_number(many) and many <= len(log), "many")
    return (log[:many], log[many:])
