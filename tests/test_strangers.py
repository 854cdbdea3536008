"""perfectorders/strangers.py: [62] the price of strangers, [63] the most that strangers cost."""

import unittest
from itertools import permutations

from perfectorders.books import Book, room_count
from perfectorders.errors import BadNumber, BadPart
from perfectorders.makers import doubled
from perfectorders.orders import Order
from perfectorders.strangers import (free_of, held_by, high_things, met_by, outside_bad, with_stranger,
                                     worst_strangers)
from perfectorders.webs import Web
from tests import by_hand
from tests.by_hand import (Case, NO_INTEGERS, all_needs, all_orders, all_webs, bad_by_hand, count_by_hand,
                           heaviest_weight, ones_on, right_orders_of, rooms_by_hand, rooms_held, sets_of, some_webs,
                           subsets, weight_of, wrong_orders_of)

WRONG = Order(Web.line(4), (0, 3, 1, 2))
MOST = 10 ** 12


def cases():
    for web in all_webs(3):
        for order in all_orders(web):
            for needs in all_needs(web.many, 2)[::5]:
                yield order, needs
    for place, web in enumerate([Web.line(4), *some_webs(9, 4), *some_webs(211)]):
        for order in all_orders(web)[::17]:
            for needs in all_needs(web.many, 3)[place % 7::61]:
                yield order, needs


def off(needs, things):
    return tuple(0 if thing in things else need for thing, need in enumerate(needs))


def met_by_hand(order, needs, strangers):
    """Room after room."""
    held = rooms_by_hand(order.web, order.row, needs)
    left = list(off(needs, strangers))
    knots = sets_of(order.web, range(len(order)), by_hand.is_knot)
    met = 0
    for room in sorted(rooms_held(held, held)):
        lot = {thing for thing in held if room in held[thing]}
        others = lot - set(strangers)
        most = max(weight_of(left, knot) for knot in knots)
        meets_all = all(set(knot) & others for knot in knots if weight_of(left, knot) == most)
        met += lot != others and any(left) and meets_all
        for thing in others:
            left[thing] -= 1
    return met


class Rooms(Case):
    def test_rooms_with_and_without(self):
        for order, needs in cases():
            held = rooms_by_hand(order.web, order.row, needs)
            book = Book(order, needs)
            for things in subsets(range(len(order))):
                with_them = rooms_held(held, things)
                self.same(held_by(book, list(things[::-1])), len(with_them))
                self.same(free_of(book, things), len(rooms_held(held, held) - with_them))

    def test_met_rooms(self):
        for order, needs in cases():
            book = Book(order, needs)
            for strangers in subsets(range(len(order))):
                met = met_by_hand(order, needs, strangers)
                self.same(met_by(book, list(strangers[::-1])), met)
                rest = [row for row in bad_by_hand(order.web, order.row) if not set(row) & set(strangers)]
                if not rest:
                    without = heaviest_weight(order.web, off(needs, strangers))
                    self.same(free_of(book, strangers), without - met)
                    self.assertLessEqual(book.room_count, without + held_by(book, strangers))

    def test_a_bad_row_without_strangers(self):
        for web in [Web.line(4), *some_webs(151)]:
            for order in wrong_orders_of(web, 11):
                for strangers in subsets(range(web.many)):
                    rows = [row for row in bad_by_hand(web, order.row) if not set(row) & set(strangers)]
                    self.same(outside_bad(order, list(strangers[::-1])), tuple(rows))
                    if rows:
                        needs = ones_on(web.many, rows[0])
                        self.same((free_of(Book(order, needs), strangers), heaviest_weight(web, off(needs, strangers))),
                                  (3, 2))

    def test_great_needs(self):
        order = Order(Web.line(4), (1, 0, 2, 3))
        book = Book(order, (MOST, MOST, MOST, 2 * MOST))
        self.same(book.spans, ((MOST, (1, 3)), (MOST, (0, 2)), (MOST, (3,))))
        self.same((held_by(book, (1,)), held_by(book, (3,)), free_of(book, (3,)), free_of(book, ())),
                  (MOST, 2 * MOST, MOST, 3 * MOST))
        self.same((met_by(book, (1,)), met_by(book, (3,)), met_by(book, (2,)), met_by(book, ())), (MOST, MOST, 0, 0))
        book = Book(Order.plain(Web(3)), (5 * MOST, 2 * MOST, 5 * MOST))
        self.same((met_by(book, (2,)), met_by_hand(Order.plain(Web(3)), (5, 2, 5), (2,))), (5 * MOST, 5))

    def test_part_of_a_span_is_met(self):
        # In its first rooms thing 0 is heavier than thing 1, whose rooms come later.
        order = Order(Web(3, [(1, 2)]), (2, 0, 1))
        self.same(Book(order, (5, 3, 5)).spans, ((5, (0, 2)), (3, (1,))))
        self.same((met_by(Book(order, (5, 3, 5)), (2,)), met_by_hand(order, (5, 3, 5), (2,))), (2, 2))
        self.same(met_by(Book(order, (5 * MOST, 3 * MOST, 5 * MOST)), (2,)), 2 * MOST)
        web = Web(5, [(0, 1), (2, 3), (2, 4)])
        order = Order(web, (4, 0, 3, 2, 1))
        needs = (5, 2, 4, 1, 5)
        for strangers in subsets(range(5)):
            self.same(met_by(Book(order, needs), strangers), met_by_hand(order, needs, strangers))

    def test_no_thing(self):
        book = Book(Order.plain(Web(0)))
        self.same((held_by(book, ()), free_of(book, []), met_by(book, ()), high_things(book, 0)), (0, 0, 0, ()))
        self.same(outside_bad(Order.plain(Web(0)), ()), ())
        book = Book(Order.plain(Web.line(3)), (0, 0, 0))
        self.same((held_by(book, (0, 1)), free_of(book, ()), met_by(book, (2,)), high_things(book, 0)), (0, 0, 0, ()))
        self.same((outside_bad(WRONG, ()), outside_bad(WRONG, (2,))), (((0, 1, 2, 3),), ()))

    def test_high_things(self):
        for order, needs in cases():
            held = rooms_by_hand(order.web, order.row, needs)
            book = Book(order, needs)
            for room in range(book.room_count + 2):
                high = tuple(thing for thing in range(len(order)) if max(held[thing], default=0) > room)
                self.same(high_things(book, room), high)
                if not [row for row in bad_by_hand(order.web, order.row) if not set(row) & set(high)]:
                    self.assertLessEqual(free_of(book, high), heaviest_weight(order.web, off(needs, high)))
        self.same(high_things(Book(WRONG, (MOST,) * 4), 2 * MOST - 1), (1, 2))
        self.same(high_things(Book(WRONG, (MOST,) * 4), 10 ** 14), ())

    def test_doubled_webs(self):
        for k in range(2, 6):
            web, row = doubled(k)
            order = Order(web, row)
            book = Book(order)
            high = high_things(book, 2)
            self.same((book.room_count, heaviest_weight(web, book.needs) if k < 5 else 2), (k, 2))
            self.same((outside_bad(order, high), held_by(book, high)), ((), k - 2))


class NewThings(Case):
    def test_with_stranger(self):
        for web in [*all_webs(3), *some_webs(211)]:
            many = web.many
            for order in all_orders(web)[::11]:
                for near in subsets(range(many)):
                    for place in range(many + 1):
                        new = with_stranger(order, list(near[::-1]), place)
                        pairs = [*web.clashes, *[(thing, many) for thing in near]]
                        row = [*order.row[:place], many, *order.row[place:]]
                        self.same(new, Order(Web(many + 1, pairs), row))

    def test_what_one_stranger_costs(self):
        for web in [Web.line(4), *some_webs(29, 4)]:
            for order in right_orders_of(web, 7):
                for near in subsets(range(4))[::3]:
                    for place in range(5):
                        new = with_stranger(order, near, place)
                        for needs in all_needs(4, 2)[::23]:
                            most = heaviest_weight(web, needs) + 2
                            self.assertLessEqual(room_count(new, (*needs, 2)), most)

    def test_worst_strangers(self):
        for web in [*all_webs(3), Web.line(4), *some_webs(307)]:
            for order in all_orders(web)[::11]:
                for many in range(3):
                    new = worst_strangers(order, many)
                    old = web.many
                    pairs = [*web.clashes, *[(x, y) for y in range(old, old + many) for x in range(y)]]
                    self.same(new, Order(Web(old + many, pairs), [*range(old, old + many), *order.row]))
                    needs = (1,) * old + (3,) * many
                    count = count_by_hand(new.web, new.row, needs)
                    if not bad_by_hand(web, order.row):
                        self.same(count, heaviest_weight(web, (1,) * old) + 3 * many)

    def test_worst_strangers_of_a_wrong_order(self):
        for web in [Web.line(4), *some_webs(307)]:
            for order in wrong_orders_of(web, 17):
                needs = ones_on(web.many, bad_by_hand(web, order.row)[0])
                new = worst_strangers(order, 2)
                self.same(room_count(new, (*needs, 5, 7)), 3 + 12)
                self.same(heaviest_weight(web, needs) + 12, 14)

    def test_several_strangers_cost_at_most_their_needs(self):
        for web in some_webs(37, 4):
            for order in right_orders_of(web, 7)[:2]:
                new = with_stranger(with_stranger(order, (0, 2), 1), (1, 4), 3)
                for needs in all_needs(4, 2)[::29]:
                    most = heaviest_weight(web, needs) + 3
                    self.assertLessEqual(room_count(new, (*needs, 2, 1)), most)

    def test_any_places_in_whole_orders(self):
        web = Web(6, [*Web.line(4).clashes, (4, 1), (4, 3), (5, 0), (5, 2), (4, 5)])
        for row in list(permutations(range(6)))[::37]:
            order = Order(web, row)
            if not outside_bad(order, (4, 5)):
                for needs in all_needs(6, 1)[::7]:
                    self.assertLessEqual(free_of(Book(order, needs), (4, 5)), heaviest_weight(web, off(needs, (4, 5))))


class Errors(Case):
    def test_errors_in_order(self):
        book = Book(WRONG)
        for thing in (4, -1, *NO_INTEGERS):
            for call in (held_by, free_of, met_by):
                self.raises(BadPart(1), call, book, [0, thing])
            self.raises(BadPart(1), outside_bad, WRONG, (0, thing))
            self.raises(BadPart(1), with_stranger, WRONG, (0, thing), 9)
        self.raises(BadPart(1), held_by, book, (0, 0))
        self.raises(BadPart(2), with_stranger, WRONG, (0, 1, 0), 9)
        for place in (5, -1, *NO_INTEGERS):
            self.raises(BadNumber("place"), with_stranger, WRONG, (0, 1), place)
        for value in (-1, *NO_INTEGERS):
            self.raises(BadNumber("many"), worst_strangers, WRONG, value)
            self.raises(BadNumber("room"), high_things, book, value)


if __name__ == "__main__":
    unittest.main()
