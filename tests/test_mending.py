"""perfectorders/mending.py: [116] mending."""

import unittest
from itertools import product

from perfectorders.errors import BadNeeds, BadPart, TooMany
from perfectorders.mending import least_mendings, meets_all_bad, mended, mending_price
from perfectorders.orders import Order
from perfectorders.webs import Web
from tests.by_hand import (Case, NO_INTEGERS, added, all_orders, all_webs, bad_by_hand, count_by_hand,
                           heaviest_weight, rooms_by_hand, rows_by_hand, some_webs, subsets)

LINE = Web.line(4)
WRONG = Order(LINE, (0, 3, 1, 2))
MOST = 10 ** 12


def bad_among(web, row):
    """The bad rows among the things of a row that need not hold all things."""
    place = {thing: at for at, thing in enumerate(row)}
    return [(a, b, c, d) for a, b, c, d in rows_by_hand(web)
            if {a, b, c, d} <= set(row) and place[a] < place[b] and place[d] < place[c]]


def stretch_among(web, row, thing):
    """The places of the stretch for F: behind all floors and ahead of all roofs."""
    place = {other: at for at, other in enumerate(row)}
    first, last = 0, len(row)
    for told in rows_by_hand(web):
        for a, b, c, d in (told, told[::-1]):
            if thing in (a, b) and {a, b, c, d} - {thing} <= set(row) and place[d] < place[c]:
                if thing == a:
                    first = max(first, place[b] + 1)
                else:
                    last = min(last, place[a])
    return first, last


def mended_by_hand(order, things):
    row = [thing for thing in order.row if thing not in things]
    out = []
    for thing in sorted(things):
        first, last = stretch_among(order.web, row, thing)
        if first <= last:
            row.insert(first, thing)
        else:
            out.append(thing)
    return tuple(row), tuple(out)


def cases():
    for web in [LINE, *all_webs(3), *some_webs(37), Web.ring(5)]:
        yield from all_orders(web)[::7 if web.many > 3 else 1]
    for web in (Web.ring(6), Web.line(6), ~Web.ring(6)):
        yield from all_orders(web)[::97]


class Mending(Case):
    def test_all_sets(self):
        for order in cases():
            bad = bad_by_hand(order.web, order.row)
            mends = [things for things in subsets(range(len(order))) if all(set(row) & set(things) for row in bad)]
            fewest = min(len(things) for things in mends)
            self.same(least_mendings(order), tuple(sorted(things for things in mends if len(things) == fewest)))
            for things in subsets(range(len(order)))[::3]:
                self.same(meets_all_bad(order, list(things[::-1])), things in mends)
                rest = [thing for thing in order.row if thing not in things]
                self.same(meets_all_bad(order, things), not bad_among(order.web, rest))

    def test_put_back_one_by_one(self):
        out = 0
        for order in cases():
            for things in subsets(range(len(order)))[::5]:
                row, left = mended_by_hand(order, things)
                out += len(left)
                self.same(mended(order, list(things[::-1])), (row, left))
                if meets_all_bad(order, things):
                    self.same(bad_among(order.web, row), [])
                self.assertEqual(sorted(row + left), list(range(len(order))))
        self.assertGreater(out, 20)

    def test_price(self):
        for number, order in enumerate(cases()):
            many = len(order)
            needs = tuple((number * 3 + thing * 7) % 4 for thing in range(many))
            held = rooms_by_hand(order.web, order.row, needs)
            for things in subsets(range(many))[::7]:
                off = tuple(0 if thing in things else need for thing, need in enumerate(needs))
                rooms = {room for thing in things for room in held[thing]}
                count = count_by_hand(order.web, order.row, needs)
                price = (heaviest_weight(order.web, off), len(rooms), count)
                self.same(mending_price(order, list(things), list(needs)), price)
                if meets_all_bad(order, things):
                    self.assertLessEqual(price[2], price[0] + price[1])

    def test_together_and_apart(self):
        web = Web(5, [(0, 1), (1, 2), (2, 3), (1, 4)])
        for order in all_orders(web)[::11]:
            for things in least_mendings(order):
                for needs in list(product(range(2), repeat=5))[::5]:
                    other = needs[::-1]
                    both = added(needs, other)
                    held = rooms_by_hand(web, order.row, both)
                    rooms = {room for thing in things for room in held[thing]}
                    apart = count_by_hand(web, order.row, needs) + count_by_hand(web, order.row, other)
                    self.assertLessEqual(count_by_hand(web, order.row, both), apart + len(rooms))

    def test_example(self):
        got = (least_mendings(WRONG), mended(WRONG, (3,)), mending_price(WRONG, (3,)))
        self.same(got, (((0,), (1,), (2,), (3,)), ((0, 1, 2, 3), ()), (2, 1, 3)))

    def test_needs_of_none_and_great_ones(self):
        self.same(mending_price(WRONG, (3,)), mending_price(WRONG, [3], (1, 1, 1, 1)))
        # The rooms of 0 and 3 are the first, those of 1 and 2 stand behind one another.
        self.same(mending_price(WRONG, (0, 3), (MOST,) * 4), (2 * MOST, MOST, 3 * MOST))
        self.same(mending_price(WRONG, (), (0, 0, 0, 0)), (0, 0, 0))

    def test_edges(self):
        for order in (Order.plain(Web(0)), Order.plain(Web(1)), Order.plain(LINE)):
            self.same((least_mendings(order), meets_all_bad(order, ()), mended(order, ())), (((),), True, (order.row, ())))
        self.same((meets_all_bad(WRONG, ()), mended(WRONG, ())), (False, ((0, 3, 1, 2), ())))
        self.same(mended(WRONG, (0, 1, 2, 3)), mended_by_hand(WRONG, (0, 1, 2, 3)))
        self.same(mending_price(Order.plain(Web(0)), ()), (0, 0, 0))

    def test_ten_and_eleven_things(self):
        row = (0, 2, 4, 6, 8, 1, 3, 5, 7, 9)
        order = Order(Web.line(10), row[::-1])
        bad = bad_by_hand(order.web, order.row)
        found = least_mendings(order)
        self.assertTrue(all(set(row) & set(things) for row in bad for things in found))
        self.same(least_mendings(Order.plain(Web.bare(10))), ((),))
        for web in (Web.bare(11), Web.line(11), Web.line(16)):
            self.raises(TooMany(10), least_mendings, Order.plain(web))

    def test_errors(self):
        for call in (meets_all_bad, mended, mending_price):
            for things, place in (([0, 4], 1), ((0, 0), 1), ([-1], 0)):
                self.raises(BadPart(place), call, WRONG, things)
            for value in NO_INTEGERS:
                self.raises(BadPart(1), call, WRONG, (0, value))
        self.raises(BadPart(0), mending_price, WRONG, (9,), (-1,))
        for value in (-1, *NO_INTEGERS):
            if value is not None:
                self.raises(BadNeeds(2), mending_price, WRONG, (3,), (1, 1, value, value))
        self.raises(BadNeeds(3), mending_price, WRONG, (3,), (1, 1, 1))
        self.raises(BadNeeds(4), mending_price, WRONG, (3,), [1] * 5)


if __name__ == "__main__":
    unittest.main()
