"""perfectorders/raises.py: [46] to [52], and [58] webs put together, [59] any size."""

import unittest
from itertools import permutations, product

from perfectorders.errors import BadNeeds, BadNumber, BadThing, NoneSuch
from perfectorders.joins import put_in
from perfectorders.orders import Order
from perfectorders.raises import (contrary_ways, cost, dearer_needs, dearer_now, even_way, free_together, lot_cost,
                                  need_line, pair_room, raised, raised_heaviest, slack)
from perfectorders.webs import Web
from tests import by_hand
from tests.by_hand import (Case, NO_INTEGERS, added, all_needs, all_orders, all_webs, at, bad_by_hand, clash,
                           count_by_hand, heaviest_weight, near, needy, ones_on, right_orders_of, rooms_by_hand,
                           rooms_held, sets_of, some_webs, weight_of)

LINE = Web.line(4)
HOUSE = Web(5, [(0, 1), (0, 2), (1, 3), (2, 3), (0, 4), (1, 4)])
MOST = 10 ** 12


def cases():
    """Webs with small needs."""
    for web in all_webs(3):
        for needs in all_needs(web.many, 2):
            yield web, needs
    for web in [*some_webs(7, 4), *some_webs(171)]:
        for needs in all_needs(web.many, 3)[::37]:
            yield web, needs


def slack_by_hand(web, needs, thing):
    return heaviest_weight(web, needs) - heaviest_weight(web, needs, (thing,))


def cost_by_hand(web, needs, raises):
    return heaviest_weight(web, added(needs, raises)) - heaviest_weight(web, needs)


def pairs_in(web):
    return list(permutations(range(web.many), 2))


def ways_by_hand(web, x, y):
    """All contrary ways, by going through all rows of things between x and y."""
    rest = [thing for thing in range(web.many) if thing not in (x, y)]
    rows = [(x, *between, y) for size in range(len(rest) + 1) for between in permutations(rest, size)]
    found = [row for row in rows
             if all(clash(web, row[i], row[j]) == (j - i > 1) for j in range(len(row)) for i in range(j))]
    return tuple(sorted(found, key=lambda row: (len(row), row)))


class Raised(Case):
    def test_sums(self):
        self.same(raised([1, 0, 2], (0, 3, 1)), (1, 3, 3))
        self.same(raised((), []), ())
        self.same(raised((MOST,), (MOST,)), (2 * MOST,))

    def test_errors(self):
        for value in (-1, *NO_INTEGERS):
            self.raises(BadNeeds(1), raised, (1, value), (value, 1))
            self.raises(BadNeeds(0), raised, [1, 1], [value])
        self.raises(BadNeeds(1), raised, (1, 1), (1,))
        self.raises(BadNeeds(2), raised, (1, 1), (1, 1, 1))


class Costs(Case):
    def test_costs(self):
        for web, needs in cases():
            for raises in all_needs(web.many, 2)[::7]:
                self.same(cost(web, list(needs), raises), cost_by_hand(web, needs, raises))
                self.same(raised_heaviest(web, needs, list(raises)), heaviest_weight(web, added(needs, raises)))
                knots = sets_of(web, needy(raises), by_hand.is_knot)
                self.same(raised_heaviest(web, needs, raises),
                          max(heaviest_weight(web, needs, knot) + weight_of(raises, knot) for knot in knots))
                alone = [cost_by_hand(web, needs, at((0,) * web.many, thing, raises[thing])) for thing in needy(raises)]
                self.same(lot_cost(web, needs, raises), max(alone, default=0))

    def test_raises_of_a_lot(self):
        for web in some_webs(9, 4):
            for lot in sets_of(web, range(4), by_hand.is_lot):
                for needs in all_needs(4, 2)[::17]:
                    raises = tuple(2 + thing % 2 if thing in lot else 0 for thing in range(4))
                    self.same(cost(web, needs, raises), lot_cost(web, needs, raises))
        two = Web.full(2)
        self.same((lot_cost(two, (0, 0), (1, 1)), cost(two, (0, 0), (1, 1))), (1, 2))

    def test_none_is_one_everywhere(self):
        self.same(cost(LINE, None, None), 2)
        self.same(raised_heaviest(LINE, None, (0, 0, 0, 5)), 7)
        self.same((raised_heaviest(LINE, (0, 0, 0, 5), None), lot_cost(LINE, (0, 0, 0, 5), None)), (7, 1))
        self.same((cost(Web(0), None, None), lot_cost(Web(0), (), ()), raised_heaviest(Web(0), (), None)), (0, 0, 0))
        self.same(lot_cost(LINE, None, (0, 0, 0, 0)), 0)
        # A raise that costs nothing is never below 0.
        self.same((lot_cost(LINE, (5, 5, 0, 0), (0, 0, 0, 3)), cost(LINE, (5, 5, 0, 0), (0, 0, 0, 3))), (0, 0))

    def test_great_raises(self):
        self.same(cost(LINE, (MOST, 1, MOST, 0), (0, MOST, MOST, 0)), 2 * MOST)
        self.same(lot_cost(LINE, (MOST, 1, MOST, 0), (0, MOST, MOST, 0)), MOST)


class OneNeed(Case):
    def test_lines(self):
        for web, needs in cases():
            for thing in range(web.many):
                without = [x for x in range(web.many) if x != thing]
                m = max(weight_of(needs, knot) for knot in sets_of(web, without, by_hand.is_knot))
                b = max(weight_of(needs, knot) for knot in sets_of(web, near(web, thing), by_hand.is_knot))
                self.same(need_line(web, list(needs), thing), (m, b))
                self.same(need_line(web, at(needs, thing, MOST), thing), (m, b))
                for need in range(4):
                    self.same(heaviest_weight(web, at(needs, thing, need)), max(m, b + need))

    def test_slack(self):
        for web, needs in cases():
            for thing in range(web.many):
                own = slack_by_hand(web, needs, thing)
                self.same(slack(web, list(needs), thing), own)
                for more in range(4):
                    self.same(cost(web, needs, at((0,) * web.many, thing, more)), max(0, more - own))

    def test_edges(self):
        self.same((need_line(Web(1), None, 0), slack(Web(1), None, 0)), ((0, 0), 0))
        self.same(slack(Web(2), (MOST, 1), 1), MOST - 1)
        self.same((slack(LINE, None, 0), slack(LINE, (0, 0, 0, 0), 3)), (0, 0))
        self.same((need_line(LINE, (2, 1, 3, 1), 0), slack(LINE, (2, 1, 3, 1), 0)), ((4, 1), 1))

    def test_errors(self):
        for call in (need_line, slack):
            self.raises(BadNeeds(2), call, LINE, (1, 1, -1, 1), 9)
            self.raises(BadNeeds(3), call, LINE, (1, 1, 1), 9)
            # The need of the thing itself must be one, too.
            self.raises(BadNeeds(0), call, LINE, (True, 1, 1, 1), 0)
            for thing in (4, -1, *NO_INTEGERS):
                self.raises(BadThing(thing), call, LINE, None, thing)


class TwoNeeds(Case):
    def test_pair_rooms_and_free_raises(self):
        for web, needs in list(cases())[::2]:
            for x, y in pairs_in(web):
                most = heaviest_weight(web, needs)
                both = most - heaviest_weight(web, needs, (x, y)) if clash(web, x, y) else None
                self.same(pair_room(web, list(needs), x, y), both)
                if both is not None:
                    self.assertGreaterEqual(both, max(slack_by_hand(web, needs, x), slack_by_hand(web, needs, y)))
                for s, t in product((0, 1, 2, 4), repeat=2):
                    raises = tuple(s if thing == x else t if thing == y else 0 for thing in range(web.many))
                    self.same(free_together(web, needs, x, y, s, t), cost_by_hand(web, needs, raises) == 0)

    def test_dearer_now(self):
        for web, needs in list(cases())[::2]:
            for x, y in pairs_in(web):
                dearer = False
                for s, t in product(range(6), repeat=2):
                    alone = [at((0,) * web.many, x, s), at((0,) * web.many, y, t)]
                    total = sum(cost_by_hand(web, needs, raises) for raises in alone)
                    dearer = dearer or cost_by_hand(web, needs, added(*alone)) > total
                self.same(dearer_now(web, needs, x, y), dearer)
                if dearer:
                    slacks = [at((0,) * web.many, z, slack_by_hand(web, needs, z)) for z in (x, y)]
                    self.assertGreater(cost(web, needs, added(*slacks)), sum(cost(web, needs, one) for one in slacks))

    def test_the_document_s_example(self):
        w = (2, 1, 3, 1)
        self.same((need_line(LINE, w, 0), slack(LINE, w, 0), pair_room(LINE, w, 0, 1), pair_room(LINE, w, 0, 2),
                   cost(LINE, w, (3, 0, 0, 1))), ((4, 1), 1, 1, None, 2))

    def test_great_raises(self):
        needs = (0, 0, MOST, MOST)
        self.same(pair_room(LINE, needs, 0, 1), 2 * MOST)
        self.same(free_together(LINE, needs, 0, 1, MOST, MOST), True)
        self.same(free_together(LINE, needs, 0, 1, MOST + 1, MOST), False)
        self.same(free_together(LINE, needs, 0, 3, 2 * MOST, 0), True)
        self.same(free_together(LINE, needs, 0, 3, 2 * MOST, 1), False)
        self.same((dearer_now(HOUSE, (0, 0, MOST, MOST, MOST), 0, 1), dearer_now(HOUSE, None, 2, 1)), (True, False))

    def test_errors_in_order(self):
        for call, more in ((pair_room, ()), (free_together, (-1, -1)), (dearer_now, ())):
            self.raises(BadNeeds(1), call, LINE, (1, -1, 1, 1), 9, 9, *more)
            self.raises(BadNeeds(4), call, LINE, (1, 1, 1, 1, 1), 9, 9, *more)
            for thing in (4, -1, *NO_INTEGERS):
                self.raises(BadThing(thing), call, LINE, None, thing, 9, *more)
                self.raises(BadThing(thing), call, LINE, None, 1, thing, *more)
            self.raises(BadThing(1), call, LINE, None, 1, 1, *more)
        for value in (-1, *NO_INTEGERS):
            self.raises(BadNumber("s"), free_together, LINE, None, 0, 1, value, value)
            self.raises(BadNumber("t"), free_together, LINE, None, 0, 1, 0, value)
            # Also where s alone would cost something.
            self.raises(BadNumber("t"), free_together, LINE, None, 0, 1, 9, value)

    def test_bad_raises(self):
        for call in (cost, lot_cost, raised_heaviest):
            self.raises(BadNeeds(1), call, LINE, (1, -1, 1, 1), (-1, 1, 1, 1))
            self.raises(BadNeeds(0), call, LINE, None, (-1, 1, 1, 1))
            self.raises(BadNeeds(3), call, LINE, (1, 1, 1, 1), [1, 1, 1])
            self.raises(BadNeeds(4), call, LINE, None, [1, 1, 1, 1, 1])


class ContraryWays(Case):
    def test_all_ways(self):
        for web in [*all_webs(4), *some_webs(37), HOUSE, ~Web.ring(5), ~Web.line(6), ~Web.ring(6)]:
            for x, y in pairs_in(web):
                if not clash(web, x, y):
                    self.raises(NoneSuch("clash"), contrary_ways, web, x, y)
                    self.same((even_way(web, x, y), dearer_needs(web, x, y)), (None, None))
                    continue
                ways = ways_by_hand(web, x, y)
                self.same(contrary_ways(web, x, y), ways)
                even = [way for way in ways if len(way) % 2 == 1]
                self.same(even_way(web, x, y), even[0] if even else None)
                needs = ones_on(web.many, even[0][1:-1]) if even else None
                self.same(dearer_needs(web, x, y), needs)

    def test_the_needs_show_it(self):
        for web in [*all_webs(4), *some_webs(37), HOUSE]:
            for x, y in web.clashes:
                needs = dearer_needs(web, x, y)
                if needs is not None:
                    one, other = ones_on(web.many, (x,)), ones_on(web.many, (y,))
                    self.same((cost(web, needs, one), cost(web, needs, other)), (0, 0))
                    self.same(cost(web, needs, ones_on(web.many, (x, y))), 1)
                    self.same(dearer_now(web, needs, x, y), True)

    def test_without_an_even_way_it_is_never_dearer(self):
        for web in [*all_webs(4, 3), *some_webs(101)]:
            for x, y in web.clashes:
                dearer = any(dearer_now(web, needs, x, y) for needs in all_needs(web.many, 1))
                self.same(dearer, even_way(web, x, y) is not None)

    def test_the_document_s_example(self):
        w = dearer_needs(HOUSE, 0, 1)
        self.same((even_way(HOUSE, 0, 1), w, lot_cost(HOUSE, w, (1, 1, 0, 0, 0)), cost(HOUSE, w, (1, 1, 0, 0, 0))),
                  ((0, 3, 4, 2, 1), (0, 0, 1, 1, 1), 0, 1))

    def test_edges(self):
        self.same(contrary_ways(Web.full(2), 0, 1), ())
        self.same(contrary_ways(Web(3, [(0, 1)]), 1, 0), ((1, 2, 0),))
        self.same(even_way(Web(3, [(0, 1)]), 1, 0), (1, 2, 0))
        # One even way may be longer than an odd one.
        self.same([len(way) for way in contrary_ways(~Web.ring(7), 0, 2)], [3, 6])
        web = ~Web.line(16)
        self.same(contrary_ways(web, 0, 15), (tuple(range(16)),))
        self.same(contrary_ways(web, 15, 1), (tuple(range(15, 0, -1)),))

    def test_errors(self):
        for call in (contrary_ways, even_way, dearer_needs):
            for thing in (4, -1, *NO_INTEGERS):
                self.raises(BadThing(thing), call, LINE, thing, 9)
                self.raises(BadThing(thing), call, LINE, 0, thing)
            self.raises(BadThing(2), call, LINE, 2, 2)


class PutTogether(Case):
    """[57] right orders, [58] webs put together, [59] any size."""

    def test_joined_and_beside(self):
        webs = [web for web in all_webs(3, 1)][::2]
        for web, other in product(webs, repeat=2):
            needs = tuple(1 + (thing * 5 + 2) % 3 for thing in range(web.many))
            more = tuple((thing * 7 + 4) % 4 for thing in range(other.many))
            tops = heaviest_weight(web, needs), heaviest_weight(other, more)
            whole = needs + more
            for thing in range(web.many):
                own = slack_by_hand(web, needs, thing)
                self.same(slack(web * other, whole, thing), own)
                self.same(slack(web + other, whole, thing), max(tops) - tops[0] + own)

    def test_put_in(self):
        webs = [Web.line(3), Web.bare(2), Web.full(2), Web(1)]
        outer = Web.line(4)
        needs = ((1, 3, 1), (2, 5), (1, 1), (4,))
        whole = put_in(outer, webs)
        flat = tuple(need for row in needs for need in row)
        tops = tuple(heaviest_weight(web, row) for web, row in zip(webs, needs))
        first = 0
        for v, (web, row) in enumerate(zip(webs, needs)):
            for thing in range(web.many):
                expected = slack_by_hand(web, row, thing) + slack_by_hand(outer, tops, v)
                self.same(slack(whole, flat, first + thing), expected)
            first += web.many

    def test_any_size(self):
        k = 10 ** 9
        for web, needs in list(cases())[::13]:
            great = tuple(need * k for need in needs)
            for thing in range(web.many):
                m, b = need_line(web, needs, thing)
                self.same(need_line(web, great, thing), (m * k, b * k))
                self.same(slack(web, great, thing), slack(web, needs, thing) * k)
            for x, y in pairs_in(web):
                self.same(dearer_now(web, great, x, y), dearer_now(web, needs, x, y))
                if clash(web, x, y):
                    self.same(pair_room(web, great, x, y), pair_room(web, needs, x, y) * k)

    def test_right_orders(self):
        for web in [LINE, *some_webs(307)]:
            for order in right_orders_of(web, 17):
                for needs in all_needs(web.many, 2)[::41]:
                    held = rooms_by_hand(web, order.row, needs)
                    knots = [knot for knot in sets_of(web, range(web.many), by_hand.is_knot)
                             if rooms_held(held, knot) == rooms_held(held, held)]
                    for thing in range(web.many):
                        raises = at((0,) * web.many, thing, 2)
                        grown = count_by_hand(web, order.row, added(needs, raises))
                        self.same(cost(web, needs, raises), grown - count_by_hand(web, order.row, needs))
                        self.same(slack(web, needs, thing) == 0, any(thing in knot for knot in knots))

    def test_two_right_orders(self):
        for web in some_webs(307):
            orders = [order for order in all_orders(web) if not bad_by_hand(web, order.row)]
            for order, other in zip(orders[::13], orders[1::13]):
                for needs in all_needs(web.many, 2)[::41]:
                    self.same(count_by_hand(web, order.row, needs), count_by_hand(web, other.row, needs))


if __name__ == "__main__":
    unittest.main()
