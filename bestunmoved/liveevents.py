"""Events of open houses, and logs of them."""

from bestunmoved.kinds import is_integer, is_integers, is_number, is_numbers, is_sized


def is_change(thing):
    """Whether thing, five values, is a change: behind its word a place, waits, stamps and a limit."""
    _, place, waits, stamps, limit = thing
    if not is_number(place) or not isinstance(waits, tuple) or not isinstance(stamps, tuple):
        return False
    return is_numbers(len(waits), waits) and is_integers(len(stamps), stamps) and is_integer(limit)


def is_event(thing):
    """Whether thing is an event."""
    if is_sized(2, thing):
        word, number = thing
        return (word == "ask" and is_number(number)) or (word == "wait" and is_number(number) and number >= 1)
    if is_sized(3, thing):
        word, deed, place = thing
        return (word == "come" or word == "hold") and is_number(deed) and is_number(place)
    return is_sized(5, thing) and thing[0] == "change" and is_change(thing)


def is_log(thing):
    """Whether thing is a tuple of events."""
    return isinstance(thing, tuple) and all([is_event(event) for event in thing])
