"""Chains from stage to stage: a house made, changed, told, judged, priced, run, spoilt, opened and replayed.

The consequences [22], [32], [42], [52], [59], [72], [82], [86] and [92], on what earlier calls returned.
"""

from bestunmoved.alikes import waits_alike
from bestunmoved.askkinds import is_asks, is_news
from bestunmoved.breaking import breaking_run, lets_break
from bestunmoved.cheapwaits import cheapest_waits, cost_of, deal_paper
from bestunmoved.coarse import coarse_stamps, is_kept_at, lets_coarse
from bestunmoved.counters import counter_history, counter_house
from bestunmoved.dayclasses import Daybook
from bestunmoved.dayhouses import longest_house, same_day, same_rows
from bestunmoved.dayjudge import day_kept, day_ring
from bestunmoved.daypapers import lets_day_ring, lets_day_stamps
from bestunmoved.dayruns import day_breaking, day_run
from bestunmoved.dealchecker import lets_deal
from bestunmoved.dealings import least_cost
from bestunmoved.desk import desk_line
from bestunmoved.dues import due_history
from bestunmoved.eventtexts import event_line, log_text, read_log
from bestunmoved.gains import gains_of, linked_gains
from bestunmoved.historychanges import history_kept, later_history, regrained, renumbered
from bestunmoved.historychecker import lets_history
from bestunmoved.historyclasses import History
from bestunmoved.historytexts import history_line, read_history
from bestunmoved.housechanges import later_house, with_duties
from bestunmoved.housechecker import lets_house
from bestunmoved.houseclasses import House
from bestunmoved.housereadings import read_house
from bestunmoved.housetexts import house_line
from bestunmoved.joining import joined_order
from bestunmoved.judgeclasses import Judge
from bestunmoved.judging import is_kept
from bestunmoved.laters import later_by
from bestunmoved.leastwaits import is_bare, lowered
from bestunmoved.live import LiveHouse
from bestunmoved.news import in_time, latest_news
from bestunmoved.orders import keeps_order, order_of
from bestunmoved.partclasses import Part
from bestunmoved.partedhouses import beside_house, kept_house, renamed_house
from bestunmoved.partlaw import is_safe
from bestunmoved.planruns import plan_run, plan_spoilt, plan_standing
from bestunmoved.plans import extended, lets_plan, next_limit
from bestunmoved.priceclasses import Prices
from bestunmoved.programs import program_run, stamp_program
from bestunmoved.replaying import cut_log, replayed
from bestunmoved.ringchecker import lets_ring
from bestunmoved.ringpapers import ring_paper
from bestunmoved.runclasses import Run
from bestunmoved.runtexts import asks_line, read_asks
from bestunmoved.spoils import spoilt_deeds
from bestunmoved.stampruns import stamp_run
from bestunmoved.stamps import least_stamps, lets_stamps
from bestunmoved.standings import standing_of
from bestunmoved.tables import is_table, kept_table, scaled, table_of
from bestunmoved.verdictchecker import lets_verdict
from bestunmoved.verdicts import verdict_of
from tests.helpers import BIG, SHOP, Case, big_house, chance, some_house, with_part
from tests.slowdeeds import seen_house
from tests.slowruns import some_asks, some_news


def some_made(count, seed):
    """As many houses, made, changed, told and read again, each behind the house from which it was made."""
    source = chance(seed)
    for k in range(count):
        house = SHOP if k % 6 == 0 else seen_house(source)
        order = tuple(source.sample(range(len(house[2])), len(house[2])))
        changed = renamed_house(later_house(house, source.randint(0, 2)), order)
        yield source, house, order, read_house(house_line(House(*changed).told()))


class Chains(Case):

    def test_made_changed_told(self):
        for source, house, order, made in some_made(60, 1000):
            self.same(lets_house(made), len(house[2]))
            # Renamed back and sooner it is the house.
            back = renamed_house(made, tuple(order.index(door) for door in range(len(order))))
            self.same(back[1:], house[1:])
            self.same(House(*made).told(), made)
            lot = tuple(sorted(source.sample(range(len(order)), source.randint(1, len(order)))))
            self.same(table_of(kept_house(made, lot)), kept_table(table_of(made), lot))
            table = table_of(made)
            self.same([[table[order[x]][order[y]] for y in range(len(order))] for x in range(len(order))],
                      [list(row) for row in table_of(back)])

    def test_judged_and_priced(self):
        found = [0, 0]
        for source, _, _, house in some_made(80, 1001):
            table = table_of(house)
            many = len(table)
            rates = tuple(source.randint(1, 4) for _ in table)
            waits = cheapest_waits(table, rates)
            self.same(lets_deal(table, rates, deal_paper(table, rates)), least_cost(table, rates))
            self.same((cost_of(rates, waits), is_bare(table, waits)), (least_cost(table, rates), True))
            self.same(lets_stamps(table, waits, least_stamps(table, waits)).__class__, tuple)
            self.same(lets_coarse(table, 1, waits, coarse_stamps(table, 1, waits)), many)
            self.same(Prices(table, rates).cost(), Judge(house, waits).kept() and cost_of(rates, waits))
            self.same(waits_alike(table, table_of(read_house(house_line(house)))), True)
            grain = source.randint(1, 3)
            paper = ring_paper(table, grain, (0,) * many)
            self.same(paper is None, is_kept_at(scaled(table, grain), 1, (0,) * many))
            found[paper is None] += 1
            if paper is not None:
                lets_ring(table, grain, (0,) * many, paper)
                self.same(is_kept_at(table, grain, (0,) * many), False)
            # Later by as much as the waits let, and no more.
            units = later_by(house, waits)
            if units is not None:
                self.same([is_kept(table_of(later_house(house, more)), waits) for more in (units, units + 1)], [True, False])
        self.assertGreater(min(found), 15)

    def test_run_and_spoilt(self):
        spoilt = [0, 0]
        for source, _, _, house in some_made(400, 1002):
            table = table_of(house)
            grain = source.randint(1, 3)
            waits = cheapest_waits(table, tuple(source.randint(0, 2) for _ in table))
            stamps = least_stamps(table, waits)
            asks = read_asks(house, asks_line(house, some_asks(source, house, source.randint(0, 7))))
            news = some_news(source, house, grain, asks, source.choice((0, 0.9)))
            self.same((is_asks(house, asks), is_news(house, asks, news)), (True, True))
            history = stamp_run(house, grain, waits, stamps, asks, news)
            self.same(history, program_run(house, grain, stamp_program(house, waits, stamps), asks, news))
            self.same(history, plan_run(house, grain, ((waits, stamps, None),), asks, news))
            self.same(lets_history(house, history), len(asks))
            order = standing_of(house, grain, stamps, asks)
            fine = spoilt_deeds(house, grain, waits, stamps, asks, news) == ()
            self.same(keeps_order(house, grain, history, order), fine)
            self.assertTrue(fine or not in_time(house, grain, asks, news))
            spoilt[fine] += 1
            self.same(Run(house, grain, waits, stamps, asks, news).history(), history)
            lets_verdict(house, grain, history, verdict_of(house, grain, history))
            if fine:
                self.same(due_history(house, tuple(deed[:3] for deed in history), order), history)
                self.same(order_of(house, grain, renumbered(house, history, order)), tuple(range(len(asks))))
                self.same(order_of(house, 2 * grain, regrained(house, later_history(house, history, 3), 2)),
                          order_of(house, grain, history))
            self.same(read_history(house, history_line(house, history)), history)
            self.same(History(house, grain, history).verdict()[0] == "order", order_of(house, grain, history) is not None)
        self.assertGreater(min(spoilt), 5)

    def test_broken(self):
        broken = 0
        for source, _, _, house in some_made(80, 1003):
            many = len(house[2])
            program = tuple((source.choice(("stamp", "known", "asked", "here")), source.randint(0, 1), source.randint(-2, 2))
                            for _ in range(many))
            paper = breaking_run(house, program)
            waits = tuple(part[1] for part in program)
            self.same(paper is None, is_kept(table_of(house), waits))
            # At grain 1 the same waits at all hours.
            dayhouse = same_day(house, 2)
            self.same(day_kept(dayhouse, same_rows(2, waits)), is_kept_at(table_of(house), 1, waits))
            self.same(longest_house(dayhouse), house)
            if paper is not None:
                broken += 1
                self.same(lets_break(house, program, paper), paper[2])
                self.same(verdict_of(house, many, paper[1])[0], "ring")
                self.same(lets_verdict(house, many, paper[1], ("ring", paper[2])), "ring")
        self.assertGreater(broken, 15)

    def test_by_hours(self):
        for source, _, _, house in some_made(40, 1004):
            dayhouse = same_day(house, source.randint(1, 3))
            zero = same_rows(dayhouse[0], (0,) * len(house[2]))
            ring = day_ring(dayhouse, zero)
            if ring is not None:
                lets_day_ring(dayhouse, zero, ring)
                asks, history, deeds = day_breaking(dayhouse, zero, zero)
                self.same(lets_verdict(longest_house(dayhouse), 1, history, ("ring", deeds)), "ring")
            book = Daybook(dayhouse, same_rows(dayhouse[0], (BIG,) * len(house[2]))).bare(tuple(range(len(house[2]))))
            stamps = lets_day_stamps(*book.told(), book.stamps())
            asks = some_asks(source, house, 6)
            news = latest_news(house, 1, asks)
            history = book.run(stamps, asks, news)
            self.same(history, day_run(*book.told(), stamps, asks, news))
            self.same(verdict_of(house, 1, history)[0], "order")

    def test_parted(self):
        # Side by side with safe duties across, two houses are judged one by one.
        source = chance(1005)
        counted = 0
        for _ in range(60):
            one, other = some_house(source, doors=3), some_house(source, doors=3)
            both = beside_house(one, other, source.choice((None, 9)))
            many, more = len(one[2]), len(other[2])
            parting = (0,) * many + (many,) * more
            waits = tuple(source.randint(0, 4) for _ in range(many + more))
            parts = is_kept(table_of(one), waits[:many]) and is_kept(table_of(other), waits[many:])
            if is_safe(both[3], parting):
                self.same(is_kept(table_of(both), waits), parts)
                self.same((counter_house(both[3], parting), counter_history(both[3], parting)), (None, None))
            else:
                counted += 1
                house, count = counter_house(both[3], parting)
                self.same(lets_house(house), many + more)
                self.same([is_kept(table_of(house), count), is_kept(table_of(kept_house(house, tuple(range(many)))), count[:many])],
                          [False, True])
                house, grain, history = counter_history(both[3], parting)
                self.same(verdict_of(house, grain, history)[0], "ring")
                orders = [order_of(kept_house(house, lot), grain, history_kept(house, history, lot))
                          for lot in (tuple(range(many)), tuple(range(many, many + more)))]
                self.same(None in orders, False)
                own = [[d for d, deed in enumerate(history) if (deed[0] < many) == first] for first in (True, False)]
                told = tuple(tuple(deeds[k] for k in order) for deeds, order in zip(own, orders))
                self.same(joined_order(both[3], grain, parting, tuple(deed[:3] for deed in history), told), None)
            # As parts, linked by the same duties, they have the gains of both.
            part, far = [Part(table_of(some), own, tuple(range(len(own))))
                         for some, own in ((one, waits[:many]), (other, waits[many:]))]
            there = tuple(tuple(row[many:]) for row in both[3][:many])
            back = tuple(tuple(row[:many]) for row in both[3][many:])
            linked = part.linked(far, there, back)
            self.same(linked.told()[0], table_of(both))
            self.same(linked.gains(), gains_of(table_of(both), waits, tuple(range(many + more))))
            self.same(linked.gains(), linked_gains(part.gains(), far.gains(), there, back))
            self.same(linked.kept(), linked.gains() is not None)
        self.assertGreater(counted, 10)

    def test_planned_opened_replayed(self):
        for source, _, _, house in some_made(60, 1006):
            table = table_of(house)
            grain = source.randint(1, 2)
            waits = cheapest_waits(table, tuple(source.randint(0, 3) for _ in table))
            others = lowered(table, tuple(wait + 2 for wait in waits), tuple(range(len(table))))
            stamps = least_stamps(table, waits)
            live = LiveHouse(house, grain, waits, stamps)
            # A place from which all doors hear, if there is one, changes the waits.
            places = [p for p, row in enumerate(house[0]) if all(row[door[0]] is not None for door in house[2])]
            for k in range(8):
                desk_line(live, "ask %d" % source.randrange(len(house[2])))
                desk_line(live, "wait %d" % source.randint(1, 3))
                if k == 3 and places:
                    longest = max(grain * house[0][places[0]][door[0]] for door in house[2])
                    limit = next_limit(table, grain, live.plan_now(), live.now() + longest)
                    plan = extended(table, grain, live.plan_now(), limit, others, least_stamps(table, others))
                    event = ("change", places[0], others, least_stamps(table, others), limit)
                    self.same(desk_line(live, event_line(event)), "done")
                    self.same(live.plan_now(), plan)
                    self.same(lets_plan(table, grain, plan), 2)
            live.wait(1000)
            args = (house, grain, live.plan_now(), live.asks_now())
            self.same((live.history(), live.spoilt()), (plan_run(*args, live.news_now()), plan_spoilt(*args, live.news_now())))
            self.same((live.spoilt(), live.waiting(), desk_line(live, "spoilt")), ((), (), "-"))
            self.same(in_time(house, grain, live.asks_now(), live.news_now()), True)
            self.same(live.news_now(), latest_news(house, grain, live.asks_now()))
            history = live.history()
            self.same(keeps_order(house, grain, history, plan_standing(*args)), True)
            self.same(verdict_of(house, grain, history)[0], "order")
            log = read_log(log_text(live.log()))
            self.same(replayed(house, grain, waits, stamps, log) == live, True)
            first, rest = cut_log(log, 5)
            again = replayed(house, grain, waits, stamps, first)
            again.do_all(rest)
            self.same((again == live, again.history()), (True, history))

    def test_what_is_returned_is_taken_again(self):
        # Up to sixteen doors and places and thirty books, whatever the integers.
        both = beside_house(big_house(), big_house(), BIG)
        self.same(lets_house(both), 16)
        table = table_of(both)
        self.same(is_table(table), True)
        waits = cheapest_waits(table, (1,) * 16)
        self.same(is_kept(table, waits), True)
        stamps = least_stamps(table, waits)
        self.same(read_house(house_line(both)), both)
        asks = tuple((door, door) for door in range(16))
        history = stamp_run(both, 3, waits, stamps, asks, latest_news(both, 3, asks))
        self.same(keeps_order(both, 3, history, standing_of(both, 3, stamps, asks)), True)
        self.same(gains_of(table, waits, tuple(range(16))) is None, False)
        live = LiveHouse(both, 3, waits, stamps)
        self.same((live.ask(15), live.tried((("wait", 10 ** 40),))), (0, (10 ** 40, ())))
        free = with_duties(both, tuple(tuple(0 if x == y else None for y in range(16)) for x in range(16)))
        self.same(is_kept(table_of(free), waits), True)
        scaled_waits = tuple(wait * 10 ** 6 for wait in waits)
        self.same(is_kept(scaled(table, 10 ** 6), scaled_waits), True)
        self.same(with_part(waits, (0,), waits[0]), waits)
