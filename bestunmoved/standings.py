"""How deeds stand by stamps, and what is due then."""

from bestunmoved.askkinds import need_asks
from bestunmoved.dues import shown_of
from bestunmoved.helpers import need_below, need_grain, need_numbers, need_stamps


def beat_stamps(grain, stamps, asks):
    """The stamps of all deeds, in beats, as a list."""
    return [moment + grain * stamps[door] for door, moment in asks]


def order_by(beats, asks):
    """The order of all deeds by these stamps, then door, then number."""
    places = sorted([(beat, asks[deed][0], deed) for deed, beat in enumerate(beats)])
    return tuple([place[2] for place in places])


def answers_by(grain, waits, asks):
    """When each deed is answered, as a list."""
    return [moment + grain * waits[door] for door, moment in asks]


def run_of(house, asks, answers, sequences):
    """The history of deeds that are answered then, each showing those of its sequence that write its books."""
    history = []
    for (door, moment), answered, sequence in zip(asks, answers, sequences):
        history.append((door, moment, answered, shown_of(house, asks, door, sequence)))
    return tuple(history)


def ahead_lists(order):
    """For each deed those that stand ahead of it, in the sequence of the order."""
    return [order[:order.index(deed)] for deed in range(len(order))]


def due_by(house, grain, waits, stamps, asks):
    """The history that is due by waits and stamps."""
    order = order_by(beat_stamps(grain, stamps, asks), asks)
    return run_of(house, asks, answers_by(grain, waits, asks), ahead_lists(order))


def need_stamped(house, grain, stamps, asks):
    """The parameters grain, stamps and asks have to be as stated."""
    need_grain(grain, "grain")
    need_stamps(len(house[2]), stamps)
    need_asks(house, asks)


def need_waiting(house, grain, waits, stamps, asks):
    """The parameters grain, waits, stamps and asks have to be as stated."""
    need_grain(grain, "grain")
    need_numbers(len(house[2]), waits, "waits")
    need_stamped(house, grain, stamps, asks)


def stamp_of(house, grain, stamps, asks, deed):
    """The deed's stamp, in beats."""
    need_stamped(house, grain, stamps, asks)
    need_below(len(asks), deed, "deed")
    return beat_stamps(grain, stamps, asks)[deed]


def standing_of(house, grain, stamps, asks):
    """The order of all deeds in which they stand."""
    need_stamped(house, grain, stamps, asks)
    return order_by(beat_stamps(grain, stamps, asks), asks)


def due_run(house, grain, waits, stamps, asks):
    """The history that is due by waits and stamps."""
    need_waiting(house, grain, waits, stamps, asks)
    return due_by(house, grain, waits, stamps, asks)
