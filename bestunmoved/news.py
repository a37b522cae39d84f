"""News: how soon the records of deeds come to the places."""

from bestunmoved.askkinds import need_asks, need_news
from bestunmoved.helpers import need, need_below, need_grain
from bestunmoved.kinds import is_number


def news_by(house, grain, asks):
    """The news whose entries are grain, perhaps 0, times the way."""
    rows = [house[0][house[2][door][0]] for door, _ in asks]
    return tuple([tuple([None if way is None else grain * way for way in row]) for row in rows])


def latest_news(house, grain, asks):
    """The news whose entries are grain times the way."""
    need_grain(grain, "grain")
    need_asks(house, asks)
    return news_by(house, grain, asks)


def quick_news(house, asks):
    """The news whose entries are 0 wherever a way leads."""
    need_asks(house, asks)
    return news_by(house, 0, asks)


def late_letters(house, grain, asks, news):
    """All pairs (deed, place) with the deed's record late at the place, ascending."""
    need_grain(grain, "grain")
    need_asks(house, asks)
    need_news(house, asks, news)
    late = []
    for deed, latest in enumerate(news_by(house, grain, asks)):
        for place, entry in enumerate(news[deed]):
            if entry is not None and entry > latest[place]:
                late.append((deed, place))
    return tuple(late)


def in_time(house, grain, asks, news):
    """Whether nothing is late."""
    return late_letters(house, grain, asks, news) == ()


def is_known(asks, news, deed, place, moment):
    """Whether the deed's record is known at the place at the moment."""
    entry = news[deed][place]
    return entry is not None and asks[deed][1] + entry <= moment


def known_at(house, asks, news, place, moment):
    """The lot of the deeds whose records are known at the place at the moment."""
    need_asks(house, asks)
    need_news(house, asks, news)
    need_below(len(house[0]), place, "place")
    need(is_number(moment), "moment")
    return tuple([deed for deed in range(len(asks)) if is_known(asks, news, deed, place, moment)])
