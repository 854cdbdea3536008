"""perfectorders/counts.py: [95] led on both sides, [96] lines, [97] sides, [98] put in, [100] to [102]."""

import unittest
from itertools import product
from math import factorial
from random import Random

from perfectorders.choices import has_right_order, right_order_count, right_orders
from perfectorders.counts import (both_led, line_right_leads, mixings, put_in_bad, representatives, sides_count)
from perfectorders.errors import BadNumber
from perfectorders.joins import beside, joined, put_in
from perfectorders.knots import heaviest
from perfectorders.leads import lead_count, right_lead_count, right_leads
from perfectorders.makers import mixed_rows
from perfectorders.orders import Order, put_in_order
from perfectorders.webs import Web
from tests.by_hand import (Case, NO_INTEGERS, all_orders, all_webs, bad_by_hand, clash, heaviest_weight, part_web,
                           rows_by_hand, settled_by_hand, sets_of, is_knot, some_webs, subsets)

LINE = Web.line(4)


class Lines(Case):
    def test_right_leads_of_lines(self):
        for many in range(1, 10):
            web = Web.line(many)
            if many < 8:
                leads = {order.lead() for order in all_orders(web) if not bad_by_hand(web, order.row)}
                self.same(line_right_leads(many), len(leads))
            self.same(line_right_leads(many), len(list(right_leads(web))))

    def test_however_great(self):
        self.same(line_right_leads(10 ** 15), (10 ** 15 - 1) // 2 * (10 ** 15 // 2 + 1) + 10 ** 15 // 2 + 1)
        self.same((line_right_leads(1), line_right_leads(2), line_right_leads(3)), (1, 2, 4))

    def test_bad_many(self):
        for value in (0, -1, *NO_INTEGERS):
            self.raises(BadNumber("many"), line_right_leads, value)

    def test_example(self):
        self.same((right_order_count(LINE), lead_count(LINE), right_lead_count(LINE), line_right_leads(4)), (18, 8, 6, 6))


class Mixings(Case):
    def test_all_mixings(self):
        for sizes in [(), (0,), (0, 0), (3,), *product(range(4), repeat=3), (1, 1, 1, 1), (2, 0, 2, 1)]:
            rows = [[(number, at) for at in range(size)] for number, size in enumerate(sizes)]
            self.same(mixings(sizes), len(list(mixed_rows(rows, limit=5000))))
            self.same(mixings(list(sizes)), mixings(sizes))

    def test_great_sizes(self):
        self.same(mixings((16,) * 8), factorial(128) // factorial(16) ** 8)
        self.same(mixings((10 ** 12, 1)), 10 ** 12 + 1)

    def test_bad_sizes(self):
        for value in (-1, *NO_INTEGERS):
            self.raises(BadNumber("sizes"), mixings, (1, value))
            self.raises(BadNumber("sizes"), sides_count, (1,), [value, 2])
            self.raises(BadNumber("counts"), sides_count, (1, value), (1,))
            self.raises(BadNumber("counts"), sides_count, [value], (-1,))

    def test_sides(self):
        self.same((sides_count((), ()), sides_count((2, 3), ()), sides_count((), (2, 1))), (1, 6, 3))
        self.same((sides_count([2, 0], [1, 1]), sides_count((10 ** 12, 3), [2, 2])), (0, 18 * 10 ** 12))

    def test_right_orders_beside_and_joined(self):
        for webs in ((LINE, Web(2)), (Web.line(2), Web.ring(4)), (LINE, Web.full(3)), (Web(0), LINE, Web(1)), (LINE,)):
            count = sides_count([right_order_count(web) for web in webs], [web.many for web in webs])
            for whole in (beside(*webs), joined(*webs)):
                self.same(right_order_count(whole), count)
                rows = [order for order in all_orders(whole)[::11] if order.row]
                for order in rows:
                    parts = []
                    first = 0
                    for web in webs:
                        parts.append(order.part(range(first, first + web.many)))
                        first += web.many
                    right = all(not bad_by_hand(part.web, part.row) for part in parts)
                    self.same(not bad_by_hand(whole, order.row), right)


class BothLed(Case):
    def by_hand(self, order):
        web, place = order.web, {thing: at for at, thing in enumerate(order.row)}
        for b, c in web.clashes:
            for a, d in product(range(web.many), repeat=2):
                if a != c and d not in (a, b) and clash(web, a, b) and clash(web, d, c):
                    if place[a] < place[b] and place[d] < place[c]:
                        return (b, c)
        return None

    def test_all_pairs_of_other_things(self):
        for web in [*all_webs(4), *some_webs(41)]:
            for order in all_orders(web)[::3]:
                self.same(both_led(order), self.by_hand(order))

    def test_right_without_rings_of_three_and_four(self):
        webs = [Web.line(6), Web.ring(5), Web.ring(6), Web.star(5), Web(6, [(0, 1), (1, 2), (1, 3), (3, 4), (3, 5)])]
        for web in webs:
            for order in all_orders(web)[::3]:
                self.same(both_led(order) is None, not bad_by_hand(web, order.row))

    def test_edges(self):
        for web in (Web(0), Web(1), Web.bare(5), Web.line(3)):
            self.same(both_led(Order.plain(web)), None)
        self.same(both_led(Order(LINE, (0, 3, 1, 2))), (1, 2))


class Representatives(Case):
    def test_one_thing_of_each_web(self):
        for sizes in [*product(range(4), repeat=3), (), (0,), (2,)]:
            webs = [Web(size) for size in sizes]
            expected = sorted(tuple((v, h) for v, h in zip([v for v in range(len(sizes)) if sizes[v]], chosen))
                              for chosen in product(*[range(size) for size in sizes if size]))
            self.same(list(representatives(webs)), expected)
            self.same(list(representatives(tuple(webs))), expected)

    def test_eight_webs(self):
        found = list(representatives([LINE, Web(0)] * 4))
        self.same((len(found), found[0], found[-1]), (256, ((0, 0), (2, 0), (4, 0), (6, 0)), ((0, 3), (2, 3), (4, 3), (6, 3))))


class PutIn(Case):
    def cases(self):
        chance = Random(11)
        outers = [LINE, Web.ring(4), Web.ring(5), Web(5, [(0, 1), (1, 2), (2, 3), (1, 4)]), Web.line(2), Web(1)]
        inner = [Web(0), Web(1), Web(2), Web.line(2), Web.line(3), Web(1), LINE]
        for number in range(60):
            outer = outers[number % len(outers)]
            webs = [inner[chance.randrange(6 if outer.many > 2 else 7)] for _ in range(outer.many)]
            row = list(range(sum(web.many for web in webs)))
            chance.shuffle(row)
            yield outer, webs, Order(put_in(outer, webs), row)

    def by_hand(self, outer, webs, order):
        bad = bad_by_hand(order.web, order.row)
        if not bad:
            return None
        firsts = [sum(web.many for web in webs[:v]) for v in range(len(webs))]
        for v, web in enumerate(webs):
            own = range(firsts[v], firsts[v] + web.many)
            for row in bad:
                if set(row) <= set(own):
                    return ("inside", v, tuple(thing - firsts[v] for thing in row))
        told = [v for v in range(len(webs)) if webs[v].many]
        for chosen in sorted(product(*[range(webs[v].many) for v in told])):
            thing = {v: firsts[v] + h for v, h in zip(told, chosen)}
            for row in rows_by_hand(outer):
                things = [thing.get(v) for v in row]
                if tuple(things) in bad or tuple(things[::-1]) in bad:
                    return ("across", tuple(zip(told, chosen)), row)
        return ("none",)

    def test_where_it_is_bad(self):
        kinds = set()
        for outer, webs, order in self.cases():
            expected = self.by_hand(outer, webs, order)
            kinds.add(expected and expected[0])
            self.same(put_in_bad(outer, webs, order), expected)
            self.same(put_in_bad(outer, tuple(webs), order), expected)
        self.assertEqual(kinds, {None, "inside", "across"})

    def test_the_part_of_the_chosen_has_a_bad_row(self):
        outer, webs = LINE, [Web(2), Web(1), Web(1), Web(2)]
        order = Order(put_in(outer, webs), (1, 5, 2, 3, 0, 4))
        self.same(put_in_bad(outer, webs, order), ("across", ((0, 1), (1, 0), (2, 0), (3, 1)), (0, 1, 2, 3)))

    def test_orders_put_in(self):
        for outer in (LINE, Web.ring(4)):
            for outer_order in all_orders(outer)[::5]:
                for inner in (Order.plain(LINE), Order(LINE, (0, 3, 1, 2)), Order.plain(Web(2))):
                    orders = [inner] + [Order.plain(Web.line(2))] * 3
                    whole = put_in_order(outer_order, orders)
                    webs = [order.web for order in orders]
                    right = not bad_by_hand(outer, outer_order.row) and not bad_by_hand(inner.web, inner.row)
                    self.same(put_in_bad(outer, webs, whole) is None, right)
                    needs = [1 + thing % 3 for thing in range(whole.web.many)]
                    firsts = [sum(web.many for web in webs[:v]) for v in range(4)]
                    own = [heaviest_weight(web, needs[first:first + web.many]) for web, first in zip(webs, firsts)]
                    self.same(heaviest(whole.web, needs), heaviest_weight(outer, own))

    def test_edges(self):
        self.same(put_in_bad(Web(0), [], Order.plain(Web(0))), None)
        self.same(put_in_bad(LINE, [Web(0)] * 4, Order.plain(Web(0))), None)
        self.same(put_in_bad(Web(1), [LINE], Order(LINE, (0, 3, 1, 2))), ("inside", 0, (0, 1, 2, 3)))
        self.same(put_in_bad(LINE, [Web(1)] * 4, Order(LINE, (3, 0, 1, 2))),
                  ("across", ((0, 0), (1, 0), (2, 0), (3, 0)), (0, 1, 2, 3)))

    def test_errors(self):
        for webs in ([Web(1)] * 3, [Web(1)] * 5, ()):
            self.raises(BadNumber("webs"), put_in_bad, LINE, webs, Order.plain(Web(9)))
        for web in (Web(4), Web.line(5), ~Web.line(4)):
            self.raises(BadNumber("order"), put_in_bad, LINE, [Web(1)] * 4, Order.plain(web))


class Letters(Case):
    def test_one_end_of_each_row(self):
        for web in some_webs(131):
            for order in all_orders(web)[::7]:
                place = {thing: at for at, thing in enumerate(order.row)}
                led = [(place[b] < place[a]) + (place[c] < place[d]) for a, b, c, d in rows_by_hand(web)]
                even = all((place[a] < place[b]) == (place[c] < place[d]) for a, b, c, d in rows_by_hand(web))
                self.same(all(number == 1 for number in led), even)

    def test_numbers_of_rooms(self):
        """[102]: least and greatest numbers of rooms of all parts of webs with a right order."""
        for web in [*all_webs(4), *some_webs(211)]:
            if not has_right_order(web):
                continue
            alike = True
            for things in subsets(range(web.many)):
                part = part_web(web, things)
                counts = sorted({max(rooms, default=0) for rooms in settled_by_hand(part)})
                most = max(len(knot) for knot in sets_of(part, range(part.many), is_knot))
                self.same(counts, list(range(most, counts[-1] + 1)))
                alike = alike and counts[-1] == most
            self.same(alike, not rows_by_hand(web))

    def test_right_orders_turned_keep_the_other_letter(self):
        for order in right_orders(Web.line(5)):
            place = {thing: at for at, thing in enumerate(order.row[::-1])}
            self.assertFalse(any(place[b] < place[a] and place[c] < place[d] for a, b, c, d in rows_by_hand(order.web)))


if __name__ == "__main__":
    unittest.main()
