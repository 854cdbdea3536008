"""perfectorders/leads.py: [99] one clash turned, [100] numbers of leads, [20], [97] as far as leads go."""

import unittest
from functools import lru_cache
from itertools import islice, permutations
from random import Random

from perfectorders.errors import BadNumber, BadPart, BadThing, NoneSuch, TooMany
from perfectorders.joins import made_one
from perfectorders.leads import (is_lead, lead_count, leads_of, may_turn, order_of_lead, other_way, right_lead_count,
                                 right_leads, turn_breaks, turned_clash)
from perfectorders.orders import Order
from perfectorders.webs import Web
from tests.by_hand import (Case, NO_INTEGERS, all_orders, all_webs, bad_by_hand, clash, near, part_web, some_webs,
                           subsets)

LINE = Web.line(4)
PLAIN = Order.plain(LINE)


def lead_by_hand(web, row):
    place = {thing: at for at, thing in enumerate(row)}
    return tuple(sorted((x, y) if place[x] < place[y] else (y, x) for x, y in web.clashes))


def leads_by_hand(web):
    """All leads, each with the least row that has it, by going through all orders."""
    return kept_leads(web.many, web.clashes)


@lru_cache(maxsize=None)
def kept_leads(many, clashes):
    web = Web(many, clashes)
    found = {}
    for row in permutations(range(many)):
        found.setdefault(lead_by_hand(web, row), row)
    return found


def right_by_hand(web):
    return sorted({lead_by_hand(web, order.row) for order in all_orders(web) if not bad_by_hand(web, order.row)})


def led_ways(web, row, x, y):
    """All led ways of three or more things from x to y, by going through all sets of things between them."""
    between = row[row.index(x) + 1:row.index(y)]
    found = []
    for things in subsets(range(len(between)))[1:]:
        way = (x, *[between[at] for at in things], y)
        if all(clash(web, one, two) for one, two in zip(way, way[1:])):
            found.append(way)
    return found


def cases():
    chance = Random(3)
    found = [*all_webs(4), *some_webs(29), Web.ring(6), Web.line(6), ~Web.ring(6), Web.ring(5) + Web(1)]
    for number in range(8):
        found.append(Web(6, [(x, y) for y in range(6) for x in range(y) if chance.random() < 0.2 + number / 12]))
    return found


def turns():
    """Orders with a thing and one behind it that clashes with it."""
    for web in [*all_webs(4, 2), *some_webs(37), *some_webs(2999, 6)]:
        for order in all_orders(web)[::5 if web.many < 5 else 47]:
            for x, y in lead_by_hand(web, order.row):
                yield order, x, y


class Numbers(Case):
    def test_all_orders(self):
        for web in cases():
            self.same((lead_count(web), right_lead_count(web)), (len(leads_by_hand(web)), len(right_by_hand(web))))

    def test_parts(self):
        for web in [*all_webs(4), *some_webs(97)]:
            for things in subsets(range(web.many)):
                self.same(lead_count(web, list(things[::-1])), len(leads_by_hand(part_web(web, things))))
            self.same(lead_count(web, None), len(leads_by_hand(web)))

    def test_made_webs(self):
        full = 1
        for many in range(1, 13):
            full *= many
            self.same(lead_count(Web.full(many)), full)
            self.same((lead_count(Web.line(many)), lead_count(Web.bare(many))), (2 ** (many - 1), 1))
            self.same(lead_count(Web.star(many)), 2 ** (many - 1))
            if many >= 3:
                self.same(lead_count(Web.ring(many)), 2 ** many - 2)
        self.same(right_lead_count(Web.full(12)), full)
        self.same((lead_count(Web(0)), lead_count(Web(1)), right_lead_count(Web(0)), right_lead_count(Web(1))), (1,) * 4)
        self.same((right_lead_count(Web.ring(4)), right_lead_count(Web.ring(5)), right_lead_count(Web.ring(6))), (14, 0, 2))

    def test_a_gap_or_made_one(self):
        for web in [*cases(), Web.ring(9), ~Web.line(10), Web.line(4) * Web.line(4) * Web.line(4)]:
            for x, y in web.clashes[::5 if web.many < 8 else 17]:
                apart = lead_count(web.settled(x, y, False))
                self.same(lead_count(web), apart + lead_count(made_one(web, x, y)))

    def test_beside(self):
        for web in some_webs(331):
            other = Web.ring(4)
            self.same(lead_count(web + other), lead_count(web) * 14)
            self.same(right_lead_count(web + other), right_lead_count(web) * 14)

    def test_twelve_things_joined(self):
        web = Web.line(4) * Web.bare(2)
        self.same(right_lead_count(web), len(right_by_hand(web)))
        web = Web.line(4) * Web.full(3)
        self.same(right_lead_count(web), len(list(right_leads(web, limit=10 ** 6))))

    def test_bad_part(self):
        for part, place in (([0, 4], 1), ((0, 0), 1), ([-1], 0)):
            self.raises(BadPart(place), lead_count, LINE, part)
        for value in NO_INTEGERS:
            self.raises(BadPart(0), lead_count, LINE, (value,))


class Leads(Case):
    def test_all_leads_ascending(self):
        for web in cases():
            self.same(list(leads_of(web)), sorted(leads_by_hand(web)))
            self.same(list(right_leads(web)), right_by_hand(web))

    def test_edges(self):
        for web in (Web(0), Web(1), Web.bare(12)):
            self.same((list(leads_of(web)), list(right_leads(web))), ([()], [()]))
        self.same(list(right_leads(Web.ring(5))), [])

    def test_limit(self):
        for call, many in ((leads_of, 8), (right_leads, 6)):
            whole = list(call(LINE))
            self.same(len(whole), many)
            self.same(list(call(LINE, limit=many)), whole)
            told = call(LINE, limit=many - 1)
            self.same([next(told) for _ in range(many - 1)], whole[:-1])
            self.raises(TooMany(many - 1), next, told)
            told = call(LINE, limit=1)
            self.same(next(told), whole[0])
            self.raises(TooMany(1), next, told)

    def test_limit_of_two_thousand(self):
        for call in (leads_of, right_leads):
            told = call(Web.full(12))
            found = list(islice(told, 2000))
            self.assertTrue(all(one < two for one, two in zip(found, found[1:])))
            self.same(found[0], Web.full(12).clashes)
            self.raises(TooMany(2000), next, told)

    def test_just_two_thousand(self):
        # 2 ** 11 leads are too many by 48.
        self.same(len(list(leads_of(Web.line(12), limit=2048))), 2048)
        told = leads_of(Web.line(12))
        self.raises(TooMany(2000), list, told)

    def test_bad_limit(self):
        for value in (0, -1, *NO_INTEGERS):
            for call in (leads_of, right_leads):
                told = call(LINE, limit=value)
                self.raises(BadNumber("limit"), next, told)


class OneLead(Case):
    def test_all_ways_to_lead(self):
        for web in [*all_webs(4), *some_webs(113)]:
            leads = leads_by_hand(web)
            for number in range(2 ** len(web.clashes)):
                lead = [(x, y) if number >> at & 1 else [y, x] for at, (x, y) in enumerate(web.clashes)]
                row = leads.get(tuple(sorted(tuple(pair) for pair in lead)))
                lead = lead[number % 3:] + lead[:number % 3]
                self.same(is_lead(web, lead), row is not None)
                if row is None:
                    self.raises(NoneSuch("lead"), order_of_lead, web, lead)
                else:
                    self.same(order_of_lead(web, tuple(lead)), Order(web, row))

    def test_not_each_clash_once(self):
        good = ((0, 1), (1, 2), (2, 3))
        self.same(is_lead(LINE, good), True)
        for lead in (good[:2], good + ((0, 1),), ((0, 1), (1, 0), (2, 3)), ((0, 1), (0, 1), (2, 3)), (),
                     ((0, 2), (1, 2), (2, 3)), ((0, 0), (1, 2), (2, 3)), ((0, 1), (1, 2), (2, 4)),
                     ((0, 1), (1, 2), (2, -1)), ((0, 1, 2), (1, 2), (2, 3)), ((0,), (1, 2), (2, 3))):
            self.same((is_lead(LINE, lead), is_lead(LINE, list(lead))), (False, False))
            self.raises(NoneSuch("lead"), order_of_lead, LINE, lead)

    def test_any_value(self):
        for value in (None, True, 0, 3, "abc", "", {}, {(0, 1): 1, (1, 2): 2, (2, 3): 3}, {(0, 1), (1, 2), (2, 3)}, LINE,
                      PLAIN, [0, 1, 2], ["01", "12", "23"], [None] * 3, [[], [], []], [(0, True), (1, 2), (2, 3)],
                      [(0, 1.0), (1, 2), (2, 3)], [([0], [1]), (1, 2), (2, 3)], [{0, 1}, (1, 2), (2, 3)]):
            self.same(is_lead(LINE, value), False)
            self.raises(NoneSuch("lead"), order_of_lead, LINE, value)
        self.same((is_lead(Web(0), ()), is_lead(Web(1), []), is_lead(Web(0), None)), (True, True, False))

    def test_edges(self):
        self.same(order_of_lead(Web(0), ()), Order(Web(0), ()))
        self.same(order_of_lead(Web.bare(12), []), Order.plain(Web.bare(12)))
        self.same(order_of_lead(Web.full(12), [(y, x) for x, y in Web.full(12).clashes]), ~Order.plain(Web.full(12)))


class Turns(Case):
    def test_least_other_way(self):
        for order, x, y in turns():
            ways = led_ways(order.web, order.row, x, y)
            self.same(other_way(order, x, y), min(ways) if ways else None)
            self.same(may_turn(order, x, y), not ways)

    def test_turned_lead(self):
        for order, x, y in turns():
            web = order.web
            leads = leads_by_hand(web)
            lead = tuple(sorted((y, x) if pair == (x, y) else pair for pair in lead_by_hand(web, order.row)))
            if lead in leads:
                self.same(turned_clash(order, x, y), Order(web, leads[lead]))
            else:
                self.raises(NoneSuch("lead"), turned_clash, order, x, y)
            self.same(may_turn(order, x, y), lead in leads)

    def test_what_breaks(self):
        for order, x, y in turns():
            web = order.web
            place = {thing: at for at, thing in enumerate(order.row)}
            rows = tuple((y, x, c, d) for c in near(web, x) for d in near(web, c)
                         if not clash(web, x, d) and not clash(web, y, d) and not clash(web, y, c)
                         and len({x, y, c, d}) == 4 and place[d] < place[c])
            self.same(turn_breaks(order, x, y), rows)
            if not bad_by_hand(web, order.row) and may_turn(order, x, y):
                self.same(not bad_by_hand(web, turned_clash(order, x, y).row), not rows)

    def test_the_least_way_is_not_always_the_shortest(self):
        order = Order.plain(Web(5, [(0, 4), (0, 1), (1, 2), (2, 4), (0, 3), (3, 4)]))
        self.same(other_way(order, 0, 4), (0, 1, 2, 4))
        order = Order.plain(Web.full(9))
        self.same((other_way(order, 0, 8), other_way(order, 0, 1)), (tuple(range(9)), None))
        self.same(turned_clash(order, 3, 4).row, (0, 1, 2, 4, 3, 5, 6, 7, 8))
        self.raises(NoneSuch("lead"), turned_clash, order, 3, 5)

    def test_errors(self):
        for call in (other_way, may_turn, turned_clash, turn_breaks):
            for value in (-1, 4, *NO_INTEGERS):
                self.raises(BadThing(value), call, PLAIN, value, 9)
                self.raises(BadThing(value), call, PLAIN, 0, value)
            for x, y in ((0, 2), (2, 1), (1, 0), (1, 1), (0, 3)):
                self.raises(NoneSuch("clash"), call, PLAIN, x, y)
        self.same((may_turn(PLAIN, 0, 1), turn_breaks(PLAIN, 0, 1)), (True, ()))

    def test_the_least_row_of_the_turned_lead(self):
        self.same(turned_clash(PLAIN, 2, 3).row, (0, 1, 3, 2))
        self.same(turned_clash(Order(LINE, (3, 2, 1, 0)), 3, 2).row, (2, 1, 0, 3))


if __name__ == "__main__":
    unittest.main()
