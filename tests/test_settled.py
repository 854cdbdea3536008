"""perfectorders/settled.py: [26] bookings, [27] all numbers of rooms."""

import unittest
from itertools import islice, product

from perfectorders.errors import BadBooking, BadNumber, NoneSuch, NotSettled, TooMany
from perfectorders.joins import beside, joined
from perfectorders.orders import Order
from perfectorders.settled import (booking_with, check_booking, order_of_booking, room_ends, rooms_row,
                                   settled_bookings, unsettled)
from perfectorders.webs import Web
from tests.by_hand import (Case, NO_INTEGERS, all_orders, all_webs, clash, near, rooms_by_hand, settled_by_hand,
                           some_webs)


def is_booking(web, rooms):
    return all(rooms[x] != rooms[y] for x, y in web.clashes)


def least_unsettled(web, rooms):
    return min([(x, room) for x in range(web.many) for room in range(1, rooms[x])
                if not any(rooms[y] == room for y in near(web, x))], default=None)


class Bookings(Case):
    def test_check_booking(self):
        for web in all_webs(3):
            for rooms in product((1, 2, 10 ** 14), repeat=web.many):
                bad = [x for x in range(web.many) if any(clash(web, x, y) and rooms[x] == rooms[y] for y in range(x))]
                if bad:
                    self.raises(BadBooking(bad[0]), check_booking, web, list(rooms))
                else:
                    self.same(check_booking(web, list(rooms)), rooms)
        self.same(check_booking(Web(0), []), ())

    def test_bad_bookings(self):
        web = Web.line(3)
        for call in (check_booking, unsettled, order_of_booking):
            for room in (0, -1, *NO_INTEGERS):
                self.raises(BadBooking(1), call, web, [1, room, 0])
                self.raises(BadBooking(1), call, web, (1, room))
            self.raises(BadBooking(1), call, web, (1, 1, 0))
            self.raises(BadBooking(2), call, web, (1, 2, 2))
            self.raises(BadBooking(2), call, web, (1, 2))
            self.raises(BadBooking(0), call, web, ())
            self.raises(BadBooking(3), call, web, (1, 2, 1, 1))
            self.raises(BadBooking(3), call, web, (1, 2, 1, 0))
            self.raises(BadBooking(0), call, Web(0), (1,))
            # An entry that is bad comes before the wrong length.
            self.raises(BadBooking(1), call, web, (5, 5, 1, 1))

    def test_unsettled(self):
        for web in [*all_webs(3), *some_webs(7, 4)]:
            for rooms in product(range(1, 5), repeat=web.many):
                if is_booking(web, rooms):
                    self.same(unsettled(web, list(rooms)), least_unsettled(web, rooms))

    def test_great_rooms(self):
        web = Web.line(3)
        self.same(unsettled(web, (10 ** 14, 1, 10 ** 14)), (0, 2))
        self.same(unsettled(web, (1, 10 ** 14, 2)), (1, 3))
        self.same(unsettled(web, (1, 10 ** 14, 10 ** 14 - 1)), (1, 2))
        self.raises(NotSettled(0, 1), order_of_booking, web, (10 ** 14, 10 ** 13, 10 ** 14))

    def test_order_of_booking(self):
        for web in [*all_webs(4), *some_webs(101)]:
            for rooms in settled_by_hand(web):
                order = order_of_booking(web, list(rooms))
                row = sorted(range(web.many), key=lambda thing: (rooms[thing], thing))
                self.same(order, Order(web, row))
                self.same(rooms_row(order), rooms)
                self.same(unsettled(web, rooms), None)

    def test_order_of_a_booking_that_is_not_settled(self):
        self.raises(NotSettled(0, 1), order_of_booking, Web.line(3), (2, 3, 2))
        self.raises(NotSettled(2, 1), order_of_booking, Web.line(4), (1, 2, 3, 2))
        self.raises(NotSettled(1, 2), order_of_booking, Web.line(3), [1, 3, 1])

    def test_rooms_row(self):
        for web in [*all_webs(4), *some_webs(301)]:
            for order in all_orders(web)[::5]:
                held = rooms_by_hand(web, order.row, (1,) * web.many)
                self.same(rooms_row(order), tuple(held[thing][0] for thing in range(web.many)))
        self.same(rooms_row(Order(Web(0), ())), ())

    def test_bookings_of_orders_are_the_settled_ones(self):
        for web in [*all_webs(4), *some_webs(301)]:
            self.same(sorted({rooms_row(order) for order in all_orders(web)}), settled_by_hand(web))


class Numbers(Case):
    def test_room_ends(self):
        for web in [*all_webs(4), *some_webs(3)]:
            numbers = {max(rooms, default=0) for rooms in settled_by_hand(web)}
            self.same(room_ends(web), (min(numbers), max(numbers)))

    def test_known_webs(self):
        self.same(room_ends(Web(0)), (0, 0))
        self.same(room_ends(Web(1)), (1, 1))
        self.same(room_ends(Web.line(4)), (2, 3))
        self.same(room_ends(Web.ring(6)), (2, 3))
        self.same(room_ends(Web.ring(7)), (3, 3))

    def test_booking_with(self):
        for web in [*all_webs(4), *some_webs(29)]:
            settled = settled_by_hand(web)
            numbers = {max(rooms, default=0) for rooms in settled}
            for many in range(max(numbers) + 3):
                if many in numbers:
                    rooms = booking_with(web, many)
                    self.assertIn(rooms, settled)
                    self.same(rooms, tuple(rooms))
                    self.same(max(rooms, default=0), many)
                else:
                    self.raises(NoneSuch("many"), booking_with, web, many)
        self.same(booking_with(Web(0), 0), ())

    def test_booking_with_errors(self):
        for many in (-1, *NO_INTEGERS):
            self.raises(BadNumber("many"), booking_with, Web.line(3), many)
        self.raises(NoneSuch("many"), booking_with, Web.line(3), 10 ** 14)
        self.raises(NoneSuch("many"), booking_with, Web(0), 1)
        self.raises(NoneSuch("many"), booking_with, Web(1), 0)

    def test_settled_bookings(self):
        for web in [*all_webs(4), *some_webs(13)]:
            self.same(list(settled_bookings(web)), settled_by_hand(web))
        self.same(list(settled_bookings(Web.line(4))), [(1, 2, 1, 2), (1, 2, 3, 1), (1, 3, 2, 1), (2, 1, 2, 1)])
        self.same(list(settled_bookings(Web(0))), [()])

    def test_limit(self):
        web = Web.full(4)
        self.same(len(list(settled_bookings(web, limit=24))), 24)
        told = settled_bookings(web, limit=23)
        self.same(list(islice(told, 23)), settled_by_hand(web)[:23])
        self.raises(TooMany(23), next, told)
        told = settled_bookings(Web.full(6))
        self.same(list(islice(told, 500)), settled_by_hand(Web.full(6))[:500])
        self.raises(TooMany(500), next, told)
        self.same(len(list(settled_bookings(Web(0), limit=1))), 1)

    def test_bad_limit_when_the_first_result_is_asked_for(self):
        for limit in (0, -1, *NO_INTEGERS):
            told = settled_bookings(Web.line(3), limit=limit)
            self.raises(BadNumber("limit"), next, told)


class TwelveThings(Case):
    """Points of 0.7: these calls also serve webs of twelve things."""

    def test_ends_and_bookings(self):
        crossed = Web(12, [(x, 6 + y) for x in range(6) for y in range(6) if x != y])
        webs = {
            (1, 1): Web.bare(12), (12, 12): Web.full(12), (2, 3): Web.line(12), (2, 6): crossed,
            (3, 3): beside(*[Web.full(3)] * 4), (4, 4): joined(*[Web.bare(3)] * 4),
            (6, 6): joined(*[Web.bare(2)] * 6), (5, 7): joined(Web.line(4), Web.line(4), Web.bare(4)),
        }
        for ends, web in webs.items():
            self.same(room_ends(web), ends)
            for many in range(ends[0], ends[1] + 1):
                rooms = booking_with(web, many)
                self.same(unsettled(web, rooms), None)
                self.same(max(rooms), many)
            self.raises(NoneSuch("many"), booking_with, web, ends[1] + 1)
            self.raises(NoneSuch("many"), booking_with, web, ends[0] - 1)

    def test_settled_bookings(self):
        crossed = Web(12, [(x, 6 + y) for x in range(6) for y in range(6) if x != y])
        for web in (Web.full(12), crossed, beside(*[Web.full(3)] * 4), joined(*[Web.bare(2)] * 6), Web.ring(12)):
            told = list(islice(settled_bookings(web), 100))
            self.same(told, sorted(set(told)))
            self.same([unsettled(web, rooms) for rooms in told], [None] * len(told))
        self.same(list(settled_bookings(Web.bare(6) * Web.bare(6))), [(1,) * 6 + (2,) * 6, (2,) * 6 + (1,) * 6])
        self.same(list(settled_bookings(Web.bare(12))), [(1,) * 12])
        # A line of twelve things has three kinds of rooms, few enough to go through all rows of them.
        web = Web.line(12)
        by_hand = [rooms for rooms in product((1, 2, 3), repeat=12)
                   if is_booking(web, rooms) and least_unsettled(web, rooms) is None]
        self.same(list(settled_bookings(web, limit=len(by_hand))), by_hand)


if __name__ == "__main__":
    unittest.main()
