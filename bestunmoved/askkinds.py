"""Asks and news: what they are."""

from bestunmoved.errors import NotUsable
from bestunmoved.helpers import need
from bestunmoved.kinds import is_below, is_number, is_sized


def is_ask(house, thing):
    """Whether thing is a pair of a door of the house and a moment."""
    return is_sized(2, thing) and is_below(len(house[2]), thing[0]) and is_number(thing[1])


def is_asks(house, thing):
    """Whether thing is asks of the house."""
    if not isinstance(thing, tuple) or not all([is_ask(house, pair) for pair in thing]):
        return False
    return all([earlier[1] <= later[1] for earlier, later in zip(thing, thing[1:])])


def by_moment(pairs):
    """The pairs (door, moment) by moment, those of one moment in their sequence."""
    places = sorted([(pair[1], at) for at, pair in enumerate(pairs)])
    return tuple([pairs[at] for _, at in places])


def asks_of(house, *pairs):
    """The pairs (door, moment) as asks."""
    for at, pair in enumerate(pairs):
        if not is_ask(house, pair):
            raise NotUsable("pairs", at)
    return by_moment(pairs)


def is_news_row(house, door, thing):
    """Whether thing is the news of an ask at the door."""
    place = house[2][door][0]
    ways = house[0][place]
    if not is_sized(len(ways), thing):
        return False
    if not all([entry is None if way is None else is_number(entry) for way, entry in zip(ways, thing)]):
        return False
    return thing[place] == 0


def are_news(house, asks, thing):
    """Whether thing is news of the asks, which are such."""
    if not is_sized(len(asks), thing):
        return False
    return all([is_news_row(house, ask[0], row) for ask, row in zip(asks, thing)])


def need_asks(house, asks):
    """The parameter asks has to be asks of the house."""
    need(is_asks(house, asks), "asks")


def need_news(house, asks, news):
    """The parameter news has to be news of the asks."""
    need(are_news(house, asks, news), "news")


def is_news(house, asks, thing):
    """Whether thing is news of the asks."""
    need_asks(house, asks)
    return are_news(house, asks, thing)
