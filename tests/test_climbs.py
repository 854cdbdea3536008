"""perfectorders/climbs.py: [35] reaching down, [40] climbs, [41] best knots, [45] arguments."""

import unittest

from perfectorders.books import Book
from perfectorders.climbs import climb, holding_knots, is_best, reaches, top_knot
from perfectorders.errors import BadNumber, BadPart, BadThing, NoneSuch, NotKnot, NotRight
from perfectorders.orders import Order
from perfectorders.webs import Web
from tests import by_hand
from tests.by_hand import (Case, NO_INTEGERS, all_needs, all_orders, all_webs, bad_by_hand, clash, count_by_hand,
                           heaviest_weight, needy, ones_on, pairs_of, right_orders_of, rooms_by_hand, rooms_held,
                           sets_of, some_webs, subsets, wrong_orders_of)

WRONG = Order(Web.line(4), (0, 3, 1, 2))
MOST = 10 ** 12


def right_cases():
    """Right orders with small needs."""
    for web in all_webs(3):
        for order in right_orders_of(web):
            for needs in all_needs(web.many, 2):
                yield order, needs
    for web in [*some_webs(9, 4), *some_webs(113)]:
        for order in right_orders_of(web, 7):
            for needs in all_needs(web.many, 3)[::23]:
                yield order, needs


def climb_by_hand(order, needs, thing):
    """Room after room, from the last room of the thing downward."""
    held = rooms_by_hand(order.web, order.row, needs)
    knot = {thing}
    for room in range(max(held[thing]), 0, -1):
        lot = [x for x in range(len(order)) if room in held[x]]
        if not knot & set(lot):
            knot.add(min(x for x in lot if all(clash(order.web, x, y) for y in knot)))
    return tuple(sorted(knot))


def holding_by_hand(order, needs):
    held = rooms_by_hand(order.web, order.row, needs)
    rooms = rooms_held(held, held)
    return tuple(knot for knot in sets_of(order.web, needy(needs), by_hand.is_knot)
                 if rooms_held(held, knot) == rooms)


class Climbs(Case):
    def test_room_by_room(self):
        for order, needs in right_cases():
            book = Book(order, list(needs))
            held = rooms_by_hand(order.web, order.row, needs)
            for thing in needy(needs):
                knot = climb_by_hand(order, needs, thing)
                self.same(climb(book, thing), knot)
                self.assertTrue(thing in knot and by_hand.is_knot(order.web, knot))
                self.assertLessEqual(set(range(1, max(held[thing]) + 1)), rooms_held(held, knot))

    def test_top_knots(self):
        for order, needs in right_cases():
            book = Book(order, needs)
            held = rooms_by_hand(order.web, order.row, needs)
            count = count_by_hand(order.web, order.row, needs)
            top = [thing for thing in held if count in held[thing]]
            self.same(top_knot(book), climb_by_hand(order, needs, min(top)) if top else ())
            self.same(sum(needs[x] for x in top_knot(book)), count)

    def test_the_document_s_example(self):
        book = Book(Order.plain(Web.line(4)), (2, 1, 3, 1))
        self.same((book.spans, climb(book, 0), climb(book, 2), holding_knots(book)),
                  (((2, (0, 2)), (1, (1, 3)), (1, (2,))), (0,), (1, 2), ((1, 2), (2, 3))))

    def test_the_last_room_counts_not_the_first_ones(self):
        # Thing 2 holds the rooms 1 and 2 of its lot and room 4, above those of thing 1.
        book = Book(Order.plain(Web.line(3)), (2, 1, 3))
        self.same((book.rooms_of(2), climb(book, 2), climb(book, 1), climb(book, 0)),
                  (((1, 2), (4, 4)), (1, 2), (0, 1), (0,)))

    def test_great_needs(self):
        book = Book(Order.plain(Web.line(4)), (2 * MOST, MOST, 3 * MOST, MOST))
        self.same((climb(book, 0), climb(book, 2), holding_knots(book), top_knot(book)),
                  ((0,), (1, 2), ((1, 2), (2, 3)), (1, 2)))
        sixteen = Book(Order.plain(Web.full(16)), (MOST,) * 16)
        self.same((top_knot(sixteen), holding_knots(sixteen)), (tuple(range(16)), (tuple(range(16)),)))

    def test_not_right(self):
        for web in [Web.line(4), *some_webs(211)]:
            for order in wrong_orders_of(web, 11):
                bad = bad_by_hand(web, order.row)[0]
                for needs in (None, (0,) * len(order), ones_on(len(order), (0,))):
                    book = Book(order, needs)
                    self.raises(NotRight(bad), climb, book, 0)
                    self.raises(NotRight(bad), top_knot, book)

    def test_errors_in_order(self):
        for thing in (4, -1, *NO_INTEGERS):
            self.raises(BadThing(thing), climb, Book(WRONG), thing)
        self.raises(NotRight((0, 1, 2, 3)), climb, Book(WRONG, (0, 0, 0, 0)), 0)
        self.raises(NoneSuch("need"), climb, Book(Order.plain(Web.line(3)), (1, 0, 1)), 1)
        self.raises(BadThing(0), climb, Book(Order.plain(Web(0))), 0)

    def test_no_room(self):
        for order in (Order.plain(Web(0)), Order.plain(Web.line(3))):
            book = Book(order, (0,) * len(order))
            self.same((top_knot(book), holding_knots(book), is_best(book)), ((), ((),), True))
        one = Book(Order.plain(Web(1)), (3,))
        self.same((climb(one, 0), top_knot(one), holding_knots(one)), ((0,), (0,), ((0,),)))


class HoldingKnots(Case):
    def test_all_orders(self):
        for web in [*all_webs(3), Web.line(4), *some_webs(211)]:
            for order in all_orders(web)[::5]:
                for needs in all_needs(web.many, 2)[::4]:
                    self.check(order, needs)

    def check(self, order, needs):
        book = Book(order, needs)
        knots = holding_by_hand(order, needs)
        self.same(holding_knots(book), knots)
        self.same(is_best(book), bool(knots))
        count = count_by_hand(order.web, order.row, needs)
        weighing = [knot for knot in sets_of(order.web, needy(needs), by_hand.is_knot)
                    if sum(needs[x] for x in knot) == count]
        self.same(knots, tuple(weighing))
        self.same(bool(knots), count == heaviest_weight(order.web, needs))

    def test_none_of_an_order_that_is_not_right(self):
        book = Book(WRONG)
        self.same((holding_knots(book), is_best(book)), ((), False))
        # With other needs the same order has such knots.
        book = Book(WRONG, (1, 1, 0, 0))
        self.same((holding_knots(book), is_best(book)), (((0, 1),), True))

    def test_needs_of_zero_are_left_out(self):
        self.same(holding_knots(Book(Order.plain(Web.full(3)), (1, 0, 1))), ((0, 2),))

    def test_a_right_order_by_all_needs_and_no_other(self):
        """[40]: each needy thing lies in a knot that holds all rooms up to its last one."""
        for web in [Web.line(4), *some_webs(307)]:
            for order in all_orders(web)[::13]:
                good = all(self.has_climbs(order, needs) for needs in all_needs(web.many, 1))
                self.same(good, not bad_by_hand(web, order.row))
                bad = bad_by_hand(web, order.row)
                if bad:
                    self.assertFalse(self.has_climbs(order, ones_on(web.many, bad[0])))

    def has_climbs(self, order, needs):
        held = rooms_by_hand(order.web, order.row, needs)
        knots = sets_of(order.web, range(len(order)), by_hand.is_knot)
        return all(any(x in knot and set(range(1, max(held[x]) + 1)) <= rooms_held(held, knot) for knot in knots)
                   for x in needy(needs))


class Reaches(Case):
    def test_all_knots_and_rooms(self):
        for web in [*all_webs(3), *some_webs(13, 4)]:
            for order in all_orders(web)[::5]:
                needs = tuple(1 + thing % 2 for thing in range(web.many))
                held = rooms_by_hand(web, order.row, needs)
                book = Book(order, needs)
                for knot in subsets(range(web.many)):
                    for room in range(1, book.room_count + 2):
                        self.check(book, held, knot, room)

    def check(self, book, held, knot, room):
        web = book.order.web
        gaps = [pair for pair in pairs_of(knot) if not clash(web, *pair)]
        if gaps:
            self.raises(NotKnot(*gaps[0]), reaches, book, knot[::-1], room)
        else:
            found = tuple(x for x in range(web.many) if room in held[x] and all(clash(web, x, y) for y in knot))
            self.same(reaches(book, list(knot[::-1]), room), found)

    def test_reaching_down_is_being_right(self):
        """[35], for needs of 0, 1 and 2, each room and each knot."""
        for web in [Web.line(4), *some_webs(307)]:
            for order in all_orders(web)[::17]:
                good = all(self.reaches_down(order, needs) for needs in all_needs(web.many, 1))
                self.same(good, not bad_by_hand(web, order.row))

    def reaches_down(self, order, needs):
        book = Book(order, needs)
        held = rooms_by_hand(order.web, order.row, needs)
        knots = [knot for knot in sets_of(order.web, needy(needs), by_hand.is_knot) if knot]
        for knot in knots:
            for room in range(1, book.room_count + 1):
                above = all(max(held[x]) > room and room not in held[x] for x in knot)
                if above and not reaches(book, knot, room):
                    return False
        return True

    def test_it_fails_on_the_first_bad_row(self):
        for web in [Web.line(4), *some_webs(211)]:
            for order in wrong_orders_of(web, 11):
                a, b, c, d = bad_by_hand(web, order.row)[0]
                self.same(reaches(Book(order, ones_on(len(order), (a, b, c, d))), (b, c), 1), ())

    def test_no_knot_and_no_room(self):
        book = Book(Order.plain(Web.line(4)), (MOST, 1, 3, 1))
        self.same((reaches(book, (), 1), reaches(book, (), 2 * MOST), reaches(book, (0,), 10 ** 14)), ((0, 2), (), ()))
        self.same(reaches(Book(Order.plain(Web(0))), (), 1), ())

    def test_errors_in_order(self):
        book = Book(WRONG)
        for thing in (4, -1, *NO_INTEGERS):
            self.raises(BadPart(1), reaches, book, [0, thing], 0)
        self.raises(BadPart(2), reaches, book, (0, 2, 0), 0)
        for room in (0, -1, *NO_INTEGERS):
            self.raises(BadNumber("room"), reaches, book, (0, 2), room)
        self.raises(NotKnot(0, 2), reaches, book, (3, 2, 0), 1)


if __name__ == "__main__":
    unittest.main()
