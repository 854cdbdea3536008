"""perfectorders/together.py: [36] together and apart, [37] half-way, [42] apart as good as together."""

import unittest
from itertools import product

from perfectorders.errors import BadNeeds, NoneSuch
from perfectorders.orders import Order
from perfectorders.together import bulge, common_best, gap_together, sum_needs
from perfectorders.webs import Web
from tests import by_hand
from tests.by_hand import (Case, NO_INTEGERS, added, all_needs, all_orders, all_webs, bad_by_hand, count_by_hand, needy,
                           ones_on, right_orders_of, rooms_by_hand, rooms_held, sets_of, some_webs, wrong_orders_of)

WRONG = Order(Web.line(4), (0, 3, 1, 2))
MOST = 10 ** 12


def cases(step=1):
    """Orders, right ones and others, each with two needs."""
    found = []
    for web in [*all_webs(3), Web.line(4), *some_webs(211)]:
        for order in all_orders(web)[::7]:
            rows = all_needs(web.many, 2)
            for place, needs in enumerate(rows[::5]):
                found.append((order, needs, rows[-1 - 7 * place % len(rows)]))
    return found[::step]


def common_by_hand(order, needs, other):
    held = rooms_by_hand(order.web, order.row, needs)
    more = rooms_by_hand(order.web, order.row, other)
    for knot in sets_of(order.web, needy(added(needs, other)), by_hand.is_knot):
        if rooms_held(held, knot) == rooms_held(held, held) and rooms_held(more, knot) == rooms_held(more, more):
            return knot
    return None


class SumNeeds(Case):
    def test_sums(self):
        self.same(sum_needs([1, 2, 0], (3, 0, 0)), (4, 2, 0))
        self.same(sum_needs((MOST,), [MOST]), (2 * MOST,))
        self.same(sum_needs([], ()), ())
        for needs, other in product(all_needs(2, 3), repeat=2):
            self.same(sum_needs(list(needs), list(other)), added(needs, other))

    def test_errors(self):
        for value in (-1, *NO_INTEGERS):
            self.raises(BadNeeds(1), sum_needs, (1, value, value), (value, 1, 1))
            self.raises(BadNeeds(2), sum_needs, [1, 1, 1], [1, 1, value])
            # The first argument is checked whole before the second one.
            self.raises(BadNeeds(2), sum_needs, (1, 1, value), (value,))
        self.raises(BadNeeds(1), sum_needs, (1, 1), (1,))
        self.raises(BadNeeds(2), sum_needs, (1, 1), (1, 1, 1))
        self.raises(BadNeeds(0), sum_needs, (), (1,))
        self.raises(BadNeeds(0), sum_needs, (1, 1), (True,))
        self.raises(BadNeeds(1), sum_needs, (1, 1), (1, 1.0, 1))
        # An entry behind the common places is not told.
        self.raises(BadNeeds(2), sum_needs, (1, 1), (1, 1, -1))


class GapTogether(Case):
    def test_small_needs(self):
        for order, needs, other in cases():
            apart = count_by_hand(order.web, order.row, needs) + count_by_hand(order.web, order.row, other)
            both = count_by_hand(order.web, order.row, added(needs, other))
            self.same(gap_together(order, list(needs), other), apart - both)

    def test_right_orders_and_others(self):
        for web in [Web.line(4), *some_webs(307)]:
            for order in right_orders_of(web, 11):
                for needs, other in product(all_needs(web.many, 1)[::5], repeat=2):
                    self.assertGreaterEqual(gap_together(order, needs, other), 0)
            for order in wrong_orders_of(web, 11):
                a, b, c, d = bad_by_hand(web, order.row)[0]
                self.same(gap_together(order, ones_on(web.many, (a, c)), ones_on(web.many, (b, d))), -1)

    def test_none_and_no_thing(self):
        self.same(gap_together(WRONG, None, None), gap_together(WRONG, (1, 1, 1, 1), [1, 1, 1, 1]))
        self.same(gap_together(WRONG, None, (0, 0, 0, 0)), 0)
        self.same(gap_together(Order.plain(Web(0)), None, ()), 0)
        self.same(gap_together(Order.plain(Web(1)), (7,), None), 0)
        self.same(gap_together(Order.plain(Web(2)), (0, MOST), (MOST, 0)), MOST)


class CommonBest(Case):
    def test_small_needs(self):
        for order, needs, other in cases():
            self.same(common_best(order, list(needs), list(other)), common_by_hand(order, needs, other))

    def test_apart_as_good_as_together(self):
        for web in [Web.line(4), *some_webs(307)]:
            for order in right_orders_of(web, 9):
                for needs, other in product(all_needs(web.many, 2)[::31], repeat=2):
                    equal = gap_together(order, needs, other) == 0
                    self.same(common_best(order, needs, other) is not None, equal)

    def test_edges(self):
        order = Order.plain(Web.line(4))
        self.same(common_best(order, (0,) * 4, [0] * 4), ())
        self.same(common_best(Order.plain(Web(0)), None, None), ())
        self.same(common_best(WRONG, (0,) * 4, (0,) * 4), ())
        self.same(common_best(WRONG, None, (0,) * 4), None)
        # The knot may have things that only one of the two needs.
        self.same(common_best(order, (1, 0, 0, 0), (0, 1, 0, 0)), (0, 1))
        self.same(common_best(order, (1, 0, 0, 0), (0, 0, 1, 0)), None)
        self.same(common_best(order, (MOST, 0, MOST, 0), (0, MOST, 0, MOST)), (0, 1))
        self.same(common_best(order, None, (1, 1, 1, 1)), (0, 1))


class Bulge(Case):
    def test_small_needs(self):
        for order, needs, other in cases():
            total = added(needs, other)
            if any(need % 2 for need in total):
                self.raises(NoneSuch("half"), bulge, order, list(needs), other)
                continue
            apart = count_by_hand(order.web, order.row, needs) + count_by_hand(order.web, order.row, other)
            half = count_by_hand(order.web, order.row, tuple(need // 2 for need in total))
            self.same(bulge(order, list(needs), other), apart - 2 * half)

    def test_right_orders_and_others(self):
        for web in [Web.line(4), *some_webs(307)]:
            for order in right_orders_of(web, 11):
                for needs in all_needs(web.many, 2)[::19]:
                    for other in all_needs(web.many, 1)[::7]:
                        self.assertGreaterEqual(bulge(order, needs, added(needs, added(other, other))), 0)
            for order in wrong_orders_of(web, 11):
                a, b, c, d = bad_by_hand(web, order.row)[0]
                twice = tuple(2 * need for need in ones_on(web.many, (a, c)))
                other = tuple(2 * need for need in ones_on(web.many, (b, d)))
                self.same(bulge(order, twice, other), -2)

    def test_edges(self):
        self.same(bulge(Order.plain(Web(0)), None, None), 0)
        self.same(bulge(WRONG, None, None), 0)
        self.same(bulge(WRONG, (2 * MOST, 0, 2 * MOST, 0), (0, 2 * MOST, 0, 2 * MOST)), -2 * MOST)
        self.raises(NoneSuch("half"), bulge, WRONG, None, (1, 1, 1, 2))


class Errors(Case):
    def test_bad_needs(self):
        for call in (gap_together, common_best, bulge):
            for value in (-1, *NO_INTEGERS):
                self.raises(BadNeeds(2), call, WRONG, (1, 1, value, 1), [value])
                self.raises(BadNeeds(0), call, WRONG, None, [value])
            self.raises(BadNeeds(3), call, WRONG, (1, 1, 1), (1, 1, 1, 1, 1))
            self.raises(BadNeeds(4), call, WRONG, None, (1, 1, 1, 2, 1))


if __name__ == "__main__":
    unittest.main()
