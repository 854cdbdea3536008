"""perfectorders/lots.py: [33] first lots, [34] one thing, [38] lots left out, [39] first rooms."""

import unittest
from itertools import product

from perfectorders.books import Book
from perfectorders.errors import BadNumber, BadPart, NoneSuch, NotKnot, NotLot
from perfectorders.lots import common_thing, first_rooms_out, left_out, missed_knots, missed_part
from perfectorders.orders import Order
from perfectorders.webs import Web
from tests import by_hand
from tests.by_hand import (Case, NO_INTEGERS, all_needs, all_orders, all_webs, bad_by_hand, clash, count_by_hand,
                           first_lot_by_hand, full_sets, ones_on, pairs_of, rooms_by_hand, some_webs, subsets)


class MissedKnots(Case):
    def test_all_parts(self):
        for web in [*all_webs(4), *some_webs(401)]:
            for order in all_orders(web)[::5]:
                for part in subsets(range(web.many)):
                    lot = first_lot_by_hand(web, order.row, part)
                    missed = tuple(knot for knot in full_sets(web, part, by_hand.is_knot)
                                   if knot and not set(knot) & set(lot))
                    self.same(missed_knots(order, list(part[::-1])), missed)
                    if len(part) == web.many:
                        self.same(missed_knots(order), missed)
                        self.same(missed_knots(order, None), missed)

    def test_examples(self):
        order = Order(Web.line(4), (0, 3, 1, 2))
        self.same(missed_knots(order), ((1, 2),))
        self.same((missed_knots(order, (1, 2, 3)), missed_knots(order, ())), ((), ()))
        self.same(missed_knots(Order(Web(0), ())), ())
        two = Order(Web.line(4) + Web.line(4), (0, 3, 4, 7, 1, 2, 5, 6))
        self.same(missed_knots(two), ((1, 2), (5, 6)))

    def test_bad_part(self):
        self.raises(BadPart(1), missed_knots, Order.plain(Web.line(3)), [0, 3])
        self.raises(BadPart(1), missed_knots, Order.plain(Web.line(3)), (2, 2))

    def test_missed_part(self):
        for web in [*all_webs(4), *some_webs(101)]:
            for order in all_orders(web)[::3]:
                bad = bad_by_hand(web, order.row)
                expected = (tuple(sorted(bad[0])), tuple(sorted(bad[0][1:3]))) if bad else None
                self.same(missed_part(order), expected)
        # The middles are told ascending, too.
        self.same(missed_part(Order(Web(4, [(0, 3), (3, 1), (1, 2)]), (0, 2, 3, 1))), ((0, 1, 2, 3), (1, 3)))


class CommonThing(Case):
    def test_all_knots_and_lots(self):
        for web in [*all_webs(3), *some_webs(3, 4)]:
            for order in all_orders(web)[::5]:
                place = {thing: at for at, thing in enumerate(order.row)}
                for knot, lot in product(subsets(range(web.many)), repeat=2):
                    self.check(order, place, knot, lot)

    def check(self, order, place, knot, lot):
        web = order.web
        gaps = [pair for pair in pairs_of(knot) if not clash(web, *pair)]
        clashes = [pair for pair in pairs_of(lot) if clash(web, *pair)]
        if not knot:
            self.raises(BadPart(0), common_thing, order, knot, lot)
        elif gaps:
            self.raises(NotKnot(*gaps[0]), common_thing, order, knot[::-1], lot)
        elif clashes:
            self.raises(NotLot(*clashes[0]), common_thing, order, knot, list(lot[::-1]))
        elif not all(any(clash(web, x, y) and place[y] < place[x] for y in lot) for x in knot):
            self.raises(NoneSuch("ahead"), common_thing, order, list(knot), lot)
        else:
            found = [y for y in lot if all(clash(web, x, y) for x in knot) and any(place[y] < place[x] for x in knot)]
            self.same(common_thing(order, list(knot), lot[::-1]), min(found) if found else None)

    def test_errors_in_order(self):
        order = Order.plain(Web.line(4))
        for thing in (4, -1, *NO_INTEGERS):
            self.raises(BadPart(1), common_thing, order, [0, thing], [9])
            self.raises(BadPart(0), common_thing, order, [0, 2], [thing])
        self.raises(BadPart(0), common_thing, order, (), [9, 9])
        self.raises(BadPart(1), common_thing, order, (1, 1), [9])
        self.raises(BadPart(1), common_thing, order, (0, 2), [0, 0])
        self.raises(NotKnot(0, 2), common_thing, order, (3, 2, 0), (0, 1))
        self.raises(NotLot(0, 1), common_thing, order, (0,), (2, 1, 0))
        self.raises(NoneSuch("ahead"), common_thing, order, (0,), (1,))
        self.raises(NoneSuch("ahead"), common_thing, order, (1,), ())

    def test_bad_row(self):
        order = Order(Web.line(4), (0, 3, 1, 2))
        self.same(common_thing(order, (1, 2), (0, 3)), None)
        self.same(common_thing(Order(Web.star(3), (0, 1, 2)), (1,), (0,)), 0)
        # Of two things that serve, the least one is told.
        self.same(common_thing(Order(Web(3, [(0, 1), (1, 2)]), (2, 0, 1)), [1], [2, 0]), 0)


class LeftOut(Case):
    def test_all_parts(self):
        for web in some_webs(5, 4):
            lots = [lot for lot in subsets(range(4)) if by_hand.is_lot(web, lot)]
            for order in all_orders(web)[::7]:
                for part in subsets(range(4)):
                    for picked in [(), *[(lot,) for lot in lots], tuple(lots[1:3]), tuple(lots[-2:])]:
                        gone = {thing for lot in picked for thing in lot}
                        whole = count_by_hand(web, order.row, ones_on(4, part))
                        rest = count_by_hand(web, order.row, ones_on(4, set(part) - gone))
                        self.same(left_out(order, [list(lot[::-1]) for lot in picked], list(part)), whole - rest)
                        if len(part) == 4:
                            self.same(left_out(order, picked), whole - rest)

    def test_below_zero(self):
        # Without thing 0 the others are booked in three rooms, with it in two.
        web = Web(5, [(0, 1), (1, 2), (2, 3), (3, 4)])
        found = [left_out(order, [(0,)]) for order in all_orders(web)]
        self.same((min(found), max(found)), (-1, 1))

    def test_things_outside_the_part(self):
        order = Order.plain(Web.line(4))
        self.same(left_out(order, [(0, 2)], (1, 3)), 0)
        self.same(left_out(order, [(), ()], (1, 2)), 0)
        self.same(left_out(order, [(0, 2), (2,), (2, 0)], (1, 2)), 1)
        self.same(left_out(order, [], ()), 0)
        self.same(left_out(Order(Web(0), ()), []), 0)

    def test_errors_in_order(self):
        order = Order.plain(Web.line(4))
        self.raises(BadPart(1), left_out, order, [(0, 1), (2, 4)], [9])
        self.raises(BadPart(2), left_out, order, [(0, 2), (0, 3, 0), (9,)], [9])
        self.raises(BadPart(0), left_out, order, [(0, 1)], [9])
        self.raises(BadPart(1), left_out, order, [(1, 0)], [0, 0])
        self.raises(NotLot(1, 2), left_out, order, [(0, 2), (3, 2, 1), (0, 1)], (0,))
        self.raises(NotLot(0, 1), left_out, order, [(1, 0)])


class FirstRoomsOut(Case):
    def test_small_needs(self):
        for web in [*all_webs(3), *some_webs(401)]:
            for order in all_orders(web)[::5]:
                for needs in all_needs(web.many)[::3]:
                    held = rooms_by_hand(web, order.row, needs)
                    book = Book(order, needs)
                    for many in range(book.room_count + 2):
                        left = tuple(sum(room > many for room in held[x]) for x in range(web.many))
                        self.same(first_rooms_out(book, many), left)

    def test_great_numbers(self):
        most = 10 ** 12
        book = Book(Order(Web.line(4), (0, 3, 1, 2)), (most,) * 4)
        self.same(first_rooms_out(book, most + 5), (0, most - 5, most, 0))
        self.same(first_rooms_out(book, 3 * most - 1), (0, 0, 1, 0))
        for many in (3 * most, 3 * most + 1, 10 ** 14):
            self.same(first_rooms_out(book, many), (0, 0, 0, 0))

    def test_no_rooms(self):
        book = Book(Order.plain(Web.line(3)), (2, 0, 1))
        self.same(first_rooms_out(book, 0), (2, 0, 1))
        self.same(first_rooms_out(Book(Order(Web(0), ())), 0), ())
        self.same(first_rooms_out(Book(Order(Web(0), ())), 7), ())

    def test_bad_number(self):
        for many in (-1, *NO_INTEGERS):
            self.raises(BadNumber("many"), first_rooms_out, Book(Order.plain(Web.line(3))), many)


if __name__ == "__main__":
    unittest.main()
