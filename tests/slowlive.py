"""A slow reading of stage 23: an own book that goes moment by moment: asks, then letters, then answers."""

from bestunmoved.tables import table_of
from tests.helpers import SHOP, slow_kept, slow_suits
from tests.slowdeeds import books_of, seen_house, writes
from tests.slowplans import slow_answer, slow_change, slow_plan_order, some_kept
from tests.slowruns import POST, place_of


def is_plain(thing):
    """Whether thing is an integer."""
    return type(thing) is int


def slow_event(thing):
    """Whether thing is an event, by the sentences of [87]."""
    if type(thing) is not tuple or not thing or type(thing[0]) is not str:
        return False
    rest = thing[1:]
    if thing[0] in ("ask", "wait"):
        return len(rest) == 1 and is_plain(rest[0]) and rest[0] >= (1 if thing[0] == "wait" else 0)
    if thing[0] in ("come", "hold"):
        return len(rest) == 2 and all(is_plain(part) and part >= 0 for part in rest)
    if thing[0] != "change" or len(rest) != 4:
        return False
    place, waits, stamps, limit = rest
    return (is_plain(place) and place >= 0 and type(waits) is tuple and type(stamps) is tuple and is_plain(limit)
            and all(is_plain(wait) and wait >= 0 for wait in waits) and all(is_plain(stamp) for stamp in stamps))


def slow_reason(house, grain, plan, asks, news, held, now, event):
    """The first reason that applies, each asked by its own sentence."""
    if not slow_event(event):
        return "shape"
    word = event[0]
    table = table_of(house)
    many = range(len(table))
    if word == "wait":
        return None
    if word == "ask":
        return None if event[1] in many else "door"
    if word in ("come", "hold"):
        deed, place = event[1:]
        if deed not in range(len(asks)):
            return "deed"
        own = place_of(house, asks[deed][0])
        if place not in range(len(house[0])) or place == own or house[0][own][place] is None:
            return "place"
        if news[deed][place] is not None:
            return "come"
        return "held" if word == "hold" and (deed, place) in held else None
    place, waits, stamps, limit = event[1:]
    if place not in range(len(house[0])):
        return "place"
    if len(waits) != len(table) or not slow_kept(table, waits):
        return "waits"
    if len(stamps) != len(table) or not slow_suits(table, waits, stamps):
        return "stamps"
    ways = [house[0][place][place_of(house, door)] for door in many]
    if None in ways:
        return "untold"
    for door in many:
        change = limit - grain * plan[-1][1][door]
        if change < now + grain * ways[door] or (len(plan) > 1 and change < slow_change(grain, plan[-2], door)):
            return "limit"
    return "many" if len(plan) >= 4 else None


class SlowHouse:
    """An open house that keeps what it has shown."""

    def __init__(self, house, grain, waits, stamps):
        self.house, self.grain = house, grain
        self.table = table_of(house)
        self.plan = ((waits, stamps, None),)
        self.moment = 0
        self.asks, self.news, self.held = [], [], []
        self.answers = {}

    def reason(self, event):
        """Why the event is not let."""
        return slow_reason(self.house, self.grain, self.plan, self.asks, self.news, self.held, self.moment, event)

    def go(self, event):
        """Does an event that is let."""
        word = event[0]
        if word == "ask":
            row = [None for _ in self.house[0]]
            row[place_of(self.house, event[1])] = 0
            self.asks.append((event[1], self.moment))
            self.news.append(row)
        elif word == "wait":
            for _ in range(event[1]):
                self.end_moment()
        elif word == "come":
            self.news[event[1]][event[2]] = self.moment - self.asks[event[1]][1]
            self.held = [pair for pair in self.held if pair != event[1:]]
        elif word == "hold":
            self.held = sorted(self.held + [event[1:]])
        else:
            self.plan = self.plan[:-1] + (self.plan[-1][:2] + (event[4],), (event[2], event[3], None))

    def due(self, deed):
        """When the deed is answered."""
        return slow_answer(self.table, self.grain, self.plan, *self.asks[deed])

    def end_moment(self):
        """First the letters at their latest moment come, then the deeds that are due now are answered."""
        for deed, (door, asked) in enumerate(self.asks):
            for place, way in enumerate(self.house[0][place_of(self.house, door)]):
                if (way is not None and self.news[deed][place] is None and (deed, place) not in self.held
                        and asked + self.grain * way == self.moment):
                    self.news[deed][place] = self.moment - asked
        for deed in range(len(self.asks)):
            if self.due(deed) == self.moment:
                self.answers[deed] = self.ahead_of(deed, True)
        self.moment += 1

    def ahead_of(self, deed, come):
        """What the deed shows of what stands ahead of it; only what has come, if told so."""
        order = slow_plan_order(self.grain, self.plan, self.asks)
        door = self.asks[deed][0]
        place = place_of(self.house, door)
        shown = []
        for book in books_of(self.house, door):
            numbers = [d for d in order[:order.index(deed)] if writes(self.house, self.asks[d][0], book)
                       and (not come or self.news[d][place] is not None)]
            shown.append(tuple(numbers if self.house[1][book] == "row" else sorted(numbers)))
        return tuple(shown)

    def told(self):
        """All that can be asked of it, in the sequence of [90]."""
        many = range(len(self.asks))
        history = None
        if len(self.answers) == len(self.asks):
            history = tuple(self.asks[d] + (self.due(d), self.answers[d]) for d in many)
        return (self.moment, self.plan, tuple(self.asks), tuple(map(tuple, self.news)), tuple(self.held),
                [self.due(d) for d in many], [self.answers.get(d) for d in many],
                tuple(d for d in many if d not in self.answers),
                tuple(d for d in many if d in self.answers and self.answers[d] != self.ahead_of(d, False)), history)


def told_by(live):
    """All that can be asked of an open house, in the sequence of [90]."""
    many = range(len(live.asks_now()))
    return (live.now(), live.plan_now(), live.asks_now(), live.news_now(), live.held_now(),
            [live.due_at(d) for d in many], [live.shown(d) for d in many], live.waiting(), live.spoilt(), live.history())


def some_start(source, k=4):
    """Any arguments of an open house."""
    house = SHOP if k % 4 == 0 else POST if k % 4 in (1, 2) else seen_house(source, doors=4)
    return (house, source.randint(1, 2)) + some_kept(source, table_of(house))


def some_live_event(source, slow, holds=True):
    """Any event, let or not, most often let."""
    house = slow.house
    word = source.choice(("ask",) * 5 + ("wait",) * 4 + ("come",) * 3 + ("hold",) * (3 if holds else 0) + ("change",) * 2)
    if word == "ask":
        return ("ask", source.randrange(len(house[2])) if source.random() < 0.97 else len(house[2]))
    if word == "wait":
        return ("wait", source.choice((1, 1, 1, 2, 3, 7)))
    if word in ("come", "hold"):
        open_ones = [(d, p) for d, row in enumerate(slow.news) for p, entry in enumerate(row) if entry is None
                     and house[0][place_of(house, slow.asks[d][0])][p] is not None]
        if open_ones and source.random() < 0.9:
            return (word,) + source.choice(open_ones)
        return (word, source.randint(0, len(slow.asks)), source.randint(0, len(house[0])))
    waits, stamps = some_kept(source, slow.table)
    if source.random() < 0.1:
        waits = tuple(max(0, wait - source.randint(0, 2)) for wait in waits)
    if source.random() < 0.1:
        stamps = tuple(stamp + source.randint(-3, 3) for stamp in stamps)
    place = source.randint(0, len(house[0]) - (source.random() < 0.9))
    limit = slow.moment + source.randint(-2, 14)
    return ("change", place, waits, stamps, limit)
