"""perfectorders/lazy.py: [82] lazy bookings."""

import unittest
from itertools import islice, product

from perfectorders.errors import BadBooking, BadNumber, TooMany
from perfectorders.lazy import is_lazy, lazy_bookings, lazy_counter, with_pair
from perfectorders.orders import Order
from perfectorders.settled import rooms_row
from perfectorders.threekinds import is_gathered, middle_last
from perfectorders.webs import Web
from tests.by_hand import (Case, NO_INTEGERS, all_orders, all_webs, clash, heaviest_weight, some_webs, subsets)

FAR = 10 ** 14


def cases():
    for web in all_webs(4):
        yield from all_orders(web)[::5]
    for web in some_webs(101):
        yield from all_orders(web)[::29]


def lazy_by_hand(order, rooms):
    """Thing by thing, from the document's words."""
    for place, thing in enumerate(order.row):
        ahead = order.row[:place]
        used = {rooms[x] for x in ahead}
        free = {room for room in used if not any(rooms[x] == room and clash(order.web, x, thing) for x in ahead)}
        new = min(room for room in range(1, len(order) + 2) if room not in used)
        if rooms[thing] not in (free or {new}):
            return False
    return True


def bookings_by_hand(order):
    """By going through all rows of rooms, the ones with lesser rooms at the first things of the order first."""
    many = len(order)
    found = [rooms for rooms in product(range(1, many + 1), repeat=many) if lazy_by_hand(order, rooms)]
    return sorted(found, key=lambda rooms: [rooms[thing] for thing in order.row])


class LazyBookings(Case):
    def test_all(self):
        for order in cases():
            bookings = bookings_by_hand(order)
            self.same(list(lazy_bookings(order)), bookings)
            self.assertIn(rooms_row(order), bookings)

    def test_is_lazy(self):
        for order in list(cases())[::3]:
            web = order.web
            lazy = bookings_by_hand(order)
            for rooms in product(range(1, web.many + 2), repeat=web.many):
                bad = [x for x, y in web.clashes if rooms[x] == rooms[y]]
                if not bad:
                    self.same(is_lazy(order, list(rooms)), rooms in lazy)

    def test_the_document_s_example(self):
        order = Order(Web.line(3), (0, 2, 1))
        self.same((lazy_counter(order), tuple(lazy_bookings(with_pair(order)))),
                  (((0, 1, 2, 3, 4), (1, 3, 2, 1, 2)),
                   ((1, 2, 1, 1, 2), (1, 3, 2, 1, 2), (2, 3, 1, 1, 2), (2, 1, 2, 1, 2))))

    def test_edges(self):
        self.same((list(lazy_bookings(Order.plain(Web(0)))), list(lazy_bookings(Order.plain(Web(1))))), ([()], [(1,)]))
        self.same((is_lazy(Order.plain(Web(0)), []), is_lazy(Order.plain(Web(1)), (1,))), (True, True))
        self.same((is_lazy(Order.plain(Web(1)), (2,)), is_lazy(Order.plain(Web(2)), (1, FAR))), (False, False))
        self.same(list(lazy_bookings(Order.plain(Web(3)))), [(1, 1, 1)])
        self.same(list(lazy_bookings(Order(Web.full(3), (2, 0, 1)))), [(2, 3, 1)])

    def test_any_room_in_use(self):
        """A lazy booking may leave the least room alone, but takes no new one while another serves."""
        order = Order(Web(4, [(0, 1)]), (0, 1, 2, 3))
        self.same(list(lazy_bookings(order)), [(1, 2, 1, 1), (1, 2, 1, 2), (1, 2, 2, 1), (1, 2, 2, 2)])
        self.same((is_lazy(order, (1, 2, 2, 1)), is_lazy(order, (1, 2, 3, 1)), is_lazy(order, (2, 1, 1, 1))),
                  (True, False, False))

    def test_limit(self):
        order = Order(Web(4, [(0, 1)]), (0, 1, 2, 3))
        self.same(len(list(lazy_bookings(order, limit=4))), 4)
        told = lazy_bookings(order, limit=3)
        self.same([next(told) for _ in range(3)], [(1, 2, 1, 1), (1, 2, 1, 2), (1, 2, 2, 1)])
        self.raises(TooMany(3), next, told)
        self.same(list(lazy_bookings(Order.plain(Web(0)), limit=1)), [()])
        # 2 ** 9 bookings are more than 500, 2 ** 8 are not.
        order = Order.plain(Web(10, [(0, 1)]))
        self.same(len(list(lazy_bookings(order))), 256)
        told = lazy_bookings(Order.plain(Web(11, [(0, 1)])))
        self.same(len(list(islice(told, 500))), 500)
        self.raises(TooMany(500), next, told)

    def test_first_ones_of_many(self):
        told = lazy_bookings(Order.plain(Web(16, [(x, y) for x in range(6) for y in range(x)])), limit=2)
        self.same(list(islice(told, 2)), [(1, 2, 3, 4, 5, 6) + (1,) * 10, (1, 2, 3, 4, 5, 6) + (1,) * 9 + (2,)])
        self.raises(TooMany(2), next, told)

    def test_errors(self):
        order = Order(Web.line(3), (0, 2, 1))
        for limit in (0, -1, *NO_INTEGERS):
            self.raises(BadNumber("limit"), next, lazy_bookings(order, limit=limit))
        for value in (0, -1, *NO_INTEGERS):
            self.raises(BadBooking(1), is_lazy, order, (1, value, 2))
        self.raises(BadBooking(2), is_lazy, order, (1, 2, 2))
        self.raises(BadBooking(2), is_lazy, order, [1, 2])
        self.raises(BadBooking(3), is_lazy, order, [1, 2, 1, 1])
        # A row that is no booking is told as such, also where it would be no lazy one.
        self.raises(BadBooking(2), is_lazy, order, (7, 9, 9))


class Pairs(Case):
    def test_with_pair(self):
        for order in cases():
            many = len(order)
            web = Web(many + 2, [*order.web.clashes, (many, many + 1)])
            self.same(with_pair(order), Order(web, (many, many + 1, *order.row)))

    def test_counters(self):
        for order in cases():
            told = lazy_counter(order)
            self.same(told is None, is_gathered(order))
            if told is None:
                continue
            part, rooms = told
            many = len(order)
            x, m, y = middle_last(order)[0]
            self.same(part, tuple(sorted((x, m, y, many, many + 1))))
            wanted = {x: 1, y: 2, m: 3, many: 1, many + 1: 2}
            self.same(rooms, tuple(wanted[thing] for thing in part))
            cut = with_pair(order).part(part)
            self.same((is_lazy(cut, rooms), max(rooms), heaviest_weight(cut.web, (1,) * 5)), (True, 3, 2))

    def test_gathered_orders_and_no_others(self):
        for order in list(cases())[::9]:
            longer = with_pair(order)
            good = True
            for part in subsets(range(len(longer))):
                cut = longer.part(part)
                greatest = heaviest_weight(cut.web, (1,) * len(cut))
                good = good and all(max(rooms, default=0) == greatest for rooms in lazy_bookings(cut))
            self.same(good, is_gathered(order))


if __name__ == "__main__":
    unittest.main()
