"""Slow readings of [9]: letters hour by hour, rings of hours among all rings of doors; and dayhouses by chance."""

import itertools

from bestunmoved.dayhouses import dayhouse_of
from bestunmoved.errors import Unheard
from tests.helpers import chance, some_lot, some_rows
from tests.slowruns import post_office, put_together

# As dayhouse_of makes it: its ways are closed already.
FERRY = (4, (((0, 0, 0, 0), (3, 2, 1, 4)), ((2, 2, 2, 2), (0, 0, 0, 0))), ("row",), ((0, (0,), ()), (1, (), (0,))),
         ((0, 0), (0, 0)))
NONE, LEAST = ((0, 0, 0, 0), (0, 0, 0, 0)), ((0, 0, 0, 0), (3, 2, 1, 0))
# Three doors at three places; both ways differ by the hour, and so do waits that are kept.
CIRCLE = (3, (((0, 0, 0), (2, 1, 3), (3, 2, 3)), ((4, 3, 2), (0, 0, 0), (2, 2, 1)), ((1, 3, 2), (2, 4, 3), (0, 0, 0))),
          ("row", "lot"), ((0, (0,), (1,)), (1, (0, 1), (0,)), (2, (1,), (0, 1))),
          ((0, 1, None), (2, 0, 0), (None, 3, 0)))


def slow_delays(day, thing):
    """Whether a letter that is given an hour later never comes sooner, over three days."""
    return all(h + thing[h % day] <= h + 1 + thing[(h + 1) % day] for h in range(3 * day))


def some_delays(source, day, most=5):
    """Any delays."""
    while True:
        delays = tuple(source.randint(0, most) for _ in range(day))
        if slow_delays(day, delays):
            return delays


def some_dayhouse(source, days=3, places=3, doors=3, gaps=0.2, most=4):
    """Any dayhouse with at most so many hours, places and doors."""
    while True:
        day, stood, many = source.randint(1, days), source.randint(1, places), source.randint(1, doors)
        ways = tuple(tuple((0,) * day if p == q else None if source.random() < gaps else some_delays(source, day, most)
                           for q in range(stood)) for p in range(stood))
        books = tuple(source.choice(("row", "lot")) for _ in range(source.choice((0, 1, 2, 2, 3))))
        stands = tuple((source.randrange(stood), some_lot(source, len(books)), some_lot(source, len(books)))
                       for _ in range(many))
        try:
            return dayhouse_of(day, ways, books, stands, some_rows(source, many, 0, 3, 0.3))
        except Unheard:
            pass


def some_dayrows(source, dayhouse, most=4):
    """Any dayrows, not above most."""
    return tuple(tuple(source.randint(0, most) for _ in range(dayhouse[0])) for _ in dayhouse[3])


def some_days(count, seed, most=4, doors=3):
    """As many dayhouses with dayrows."""
    source = chance(seed)
    for k in range(count):
        dayhouse = FERRY if k % 11 == 0 else CIRCLE if k % 11 == 1 else some_dayhouse(source, doors=doors)
        yield dayhouse, some_dayrows(source, dayhouse, most)


def slow_ships(day, ships, hour):
    """The delay of the ship that comes first, through the ships of many days."""
    comings = [leave + take + day * turn for leave, take in ships for turn in range(12) if leave + day * turn >= hour]
    return min(comings) - hour


def slow_closed(day, ways, place, there, hour):
    """The least delay by any steps, all walks of at most as many steps as places gone through; None without any."""
    found = [hour] if place == there else []
    reached = [(place, hour)]
    for _ in ways:
        reached = [(q, now + ways[p][q][now % day]) for p, now in reached for q in range(len(ways))
                   if ways[p][q] is not None and p != q]
        found += [now for q, now in reached if q == there]
    return min(found) - hour if found else None


def slow_answer(dayhouse, dayrows, one):
    """The hour of the answer."""
    return one[1] + dayrows[one[0]][one[1] % dayhouse[0]]


def slow_day_word(dayhouse, dayrows, one, other):
    """How one is surely ahead of other, by the definition."""
    day, ways, _, doors, duties = dayhouse
    (x, _), (y, k) = one, other
    answer = slow_answer(dayhouse, dayrows, one)
    if x == y:
        return "own" if k > answer else None
    if set(doors[x][2]) & set(doors[y][1]):
        if k + ways[doors[y][0]][doors[x][0]][k % day] > answer:
            return "sight"
    return "duty" if duties[x][y] is not None and k > answer + duties[x][y] else None


def slow_first(dayhouse, dayrows, one, door, low=-60, high=60):
    """The first hour of the door of which one is surely ahead, gone through from low on; None without one."""
    return next((k for k in range(low, high) if slow_day_word(dayhouse, dayrows, one, (door, k))), None)


def slow_day_rings(dayhouse, dayrows):
    """Barring rings of hours, among all rings of doors, from each hour of a day on.

    Of a next door the first hour of which one is surely ahead is tried, and those of two days behind it.
    """
    day, many = dayhouse[0], len(dayhouse[3])
    firsts = {(x, h, y): slow_first(dayhouse, dayrows, (x, h), y) for x in range(many) for h in range(day)
              for y in range(many) if x != y}

    def first(x, h, y):
        found = firsts[x, h % day, y]
        return None if found is None else found + h // day * day

    for length in range(2, many + 1):
        for doors in itertools.permutations(range(many), length):
            walks = [((doors[0], h),) for h in range(day)]
            for door in doors[1:]:
                longer = []
                for walk in walks:
                    least = first(walk[-1][0], walk[-1][1], door)
                    if least is not None:
                        longer += [walk + ((door, k),) for k in range(least, least + 2 * day)]
                walks = longer
            for walk in walks:
                if slow_day_word(dayhouse, dayrows, walk[-1], walk[0]):
                    yield walk


def slow_day_kept(dayhouse, dayrows):
    """Whether there is no barring ring of hours."""
    return next(slow_day_rings(dayhouse, dayrows), None) is None


def slow_day_suits(dayhouse, dayrows, stamps, days=14):
    """The first door with an hour surely ahead of one with no greater stamp; None if the stamps suit."""
    day, many = dayhouse[0], len(dayhouse[3])

    def stamp(x, h):
        return h * many + stamps[x][h % day]

    for x, h in itertools.product(range(many), range(day)):
        for y, k in itertools.product(range(many), range(-days * day, days * day)):
            if slow_day_word(dayhouse, dayrows, (x, h), (y, k)) and stamp(x, h) >= stamp(y, k):
                return x
    return None


def slow_least_row(dayhouse, dayrows, door, most=40):
    """The least row, each hour's wait from most lowered as long as no ring bars it, all its others being most."""
    row = []
    high = (most,) * dayhouse[0]
    for hour in range(dayhouse[0]):
        wait = most
        while wait >= 0:
            tried = high[:hour] + (wait,) + high[hour + 1:]
            if not slow_day_kept(dayhouse, dayrows[:door] + (tried,) + dayrows[door + 1:]):
                break
            wait -= 1
        row.append(wait + 1)
    return tuple(row)


def slow_day_order(dayhouse, stamps, asks):
    """The deeds by stamp, then door, then number."""
    many, day = len(dayhouse[3]), dayhouse[0]
    return tuple(sorted(range(len(asks)), key=lambda d: (asks[d][1] * many + stamps[asks[d][0]][asks[d][1] % day],
                                                         asks[d][0], d)))


def slow_day_run(dayhouse, dayrows, stamps, asks, news):
    """The run, by a post office that goes hour by hour."""
    house = dayhouse[1:]
    answers = [slow_answer(dayhouse, dayrows, ask) for ask in asks]
    order = slow_day_order(dayhouse, stamps, asks)
    known = post_office(house, asks, news, answers)
    sequences = [[d for d in order[:order.index(deed)] if d in [one for _, one in known[deed]]]
                 for deed in range(len(asks))]
    return put_together(house, asks, answers, sequences)


def slow_day_due(dayhouse, dayrows, stamps, asks):
    """What is due."""
    order = slow_day_order(dayhouse, stamps, asks)
    answers = [slow_answer(dayhouse, dayrows, ask) for ask in asks]
    return put_together(dayhouse[1:], asks, answers, [order[:order.index(deed)] for deed in range(len(asks))])


def some_day_stamps(source, dayhouse):
    """Any day stamps, suiting or not."""
    return tuple(tuple(source.randint(-9, 9) for _ in range(dayhouse[0])) for _ in dayhouse[3])


def some_day_news(source, dayhouse, asks, late):
    """News, about as often late as late tells."""
    rows = []
    for door, hour in asks:
        place = dayhouse[3][door][0]
        row = []
        for delays in dayhouse[1][place]:
            if delays is None:
                row.append(None)
            else:
                most = delays[hour % dayhouse[0]]
                row.append(most + source.randint(1, 4) if source.random() < late else source.randint(0, most))
        row[place] = 0
        rows.append(tuple(row))
    return tuple(rows)


def some_day_runs(count, seed, late=0.3, most=6):
    """As many runs: dayhouses, dayrows, stamps, asks and news."""
    source = chance(seed)
    for dayhouse, dayrows in some_days(count, seed + 1):
        hours = sorted(source.randint(0, 11) for _ in range(source.randint(0, most)))
        asks = tuple((source.randrange(len(dayhouse[3])), hour) for hour in hours)
        yield (dayhouse, dayrows, some_day_stamps(source, dayhouse), asks,
               some_day_news(source, dayhouse, asks, late))
