"""perfectorders/booked.py: [64] booked ahead."""

import unittest

from perfectorders.booked import AheadBook
from perfectorders.books import Book
from perfectorders.errors import BadBooking, BadNeeds, BadNumber, BadPart, BadThing
from perfectorders.orders import Order
from perfectorders.strangers import free_of, held_by, outside_bad
from perfectorders.webs import Web
from tests.by_hand import (Case, NO_INTEGERS, all_needs, all_orders, all_webs, bad_by_hand, clash, heaviest_weight,
                           near, ones_on, rooms_by_hand, some_webs, spans_of_rooms, subsets, wrong_orders_of)

LINE = Web.line(4)
PLAIN = Order.plain(LINE)
MOST = 10 ** 12
FAR = 10 ** 14


def held_ahead(web, row, rooms, needs):
    """For each thing its rooms, room after room."""
    held = {thing: list(own) for thing, own in enumerate(rooms)}
    for thing in row:
        if rooms[thing]:
            continue
        room = 1
        while len(held[thing]) < needs[thing]:
            if not any(room in held[other] for other in near(web, thing)):
                held[thing].append(room)
            room += 1
    return {thing: sorted(own) for thing, own in held.items()}


def told_rooms(web, place):
    """Rooms for some of the things, unlike for things that clash."""
    rooms = []
    for thing in range(web.many):
        wanted = {1 + (place * 3 + thing * 5) % 7, 2 + (place + thing) % 5, 9} if (place >> thing) & 1 else set()
        taken = {room for other in range(thing) if clash(web, thing, other) for room in rooms[other]}
        rooms.append(tuple(sorted(wanted - taken, key=lambda room: (room * 3) % 7)))
    return rooms


def cases():
    for web in [*all_webs(3), *some_webs(9, 4), *some_webs(171)]:
        for order in all_orders(web)[::9]:
            for place in range(0, 2 ** web.many, 1 + web.many // 4):
                needs = tuple((thing * 5 + place) % 4 for thing in range(web.many))
                yield order, told_rooms(web, place), needs


class AheadBooks(Case):
    def test_thing_by_thing(self):
        for order, rooms, needs in cases():
            book = AheadBook(order, [list(own) for own in rooms], list(needs))
            held = held_ahead(order.web, order.row, rooms, needs)
            self.same(book.spans, spans_of_rooms(held))
            self.same((book.order, book.needs), (order, needs))
            self.same(book.rooms_ahead, tuple(tuple(sorted(own)) for own in rooms))
            ahead = tuple(thing for thing in range(len(order)) if rooms[thing])
            self.same(book.ahead_things, ahead)
            taken = {room for thing in ahead for room in held[thing]}
            others = {room for own in held.values() for room in own} - taken
            self.same((book.own_count, free_of(book, ahead), held_by(book, ahead)), (len(others), len(others), len(taken)))

    def test_what_a_book_tells(self):
        for order, rooms, needs in list(cases())[::3]:
            book = AheadBook(order, rooms, needs)
            held = held_ahead(order.web, order.row, rooms, needs)
            top = max([room for own in held.values() for room in own], default=0)
            self.same((book.room_count, len(book), tuple(book)), (top, len(book.spans), book.spans))
            for thing in range(len(order)):
                self.same([room for first, last in book.rooms_of(thing) for room in range(first, last + 1)], held[thing])
                self.assertTrue(all(one[1] + 1 < two[0] for one, two in zip(book.rooms_of(thing), book.rooms_of(thing)[1:])))
                self.same(book.last_of(thing), max(held[thing], default=0))
            for room in range(1, top + 2):
                lot = tuple(thing for thing in held if room in held[thing])
                self.same((book.lot_at(room), book[room]), (lot, lot))
                self.same(book.holds(range(len(order)), room), bool(lot))
            whole = set(range(1, top + 1))
            for things in subsets(range(len(order))):
                self.same(book.holds_all(things), {room for x in things for room in held[x]} == whole)

    def test_the_facts_of_the_point(self):
        for order, rooms, needs in cases():
            book = AheadBook(order, rooms, needs)
            ahead = book.ahead_things
            last = max([book.last_of(thing) for thing in range(len(order)) if thing not in ahead], default=0)
            self.assertTrue(all(book.lot_at(room) for room in range(1, last)))
            if not outside_bad(order, ahead):
                rest = tuple(0 if thing in ahead else need for thing, need in enumerate(needs))
                self.assertLessEqual(book.own_count, heaviest_weight(order.web, rest))

    def test_nothing_ahead_is_the_book(self):
        for web in [*all_webs(3), *some_webs(211)]:
            for order in all_orders(web)[::7]:
                for needs in all_needs(web.many, 2)[::13]:
                    book = AheadBook(order, ((),) * web.many, needs)
                    self.assertTrue(book == Book(order, needs) and Book(order, needs) == book)
                    self.same((book.own_count, book.ahead_things), (book.room_count, ()))
        for order in wrong_orders_of(LINE):
            needs = ones_on(4, bad_by_hand(LINE, order.row)[0])
            self.same((AheadBook(order, ((),) * 4, needs).own_count, heaviest_weight(LINE, needs)), (3, 2))

    def test_booked_where_they_stand(self):
        for web in [*all_webs(3), *some_webs(171)]:
            for order in all_orders(web)[::11]:
                for needs in all_needs(web.many, 2)[::29]:
                    held = rooms_by_hand(web, order.row, needs)
                    for things in subsets(range(web.many)):
                        rooms = [held[thing] if thing in things else () for thing in range(web.many)]
                        self.assertTrue(AheadBook(order, rooms, needs) == Book(order, needs))

    def test_the_document_s_example(self):
        book = AheadBook(PLAIN, ((2,), (), (), (4, 1)), (9, 2, 2, 9))
        self.same((book.spans, book.own_count, book.rooms_ahead),
                  (((1, (1, 3)), (1, (0, 2)), (1, (1,)), (1, (3,)), (1, (2,))), 2, ((2,), (), (), (1, 4))))


class Edges(Case):
    def test_rooms_that_nothing_holds(self):
        book = AheadBook(Order.plain(Web(2)), ((FAR,), ()), (7, 2))
        self.same(book.spans, ((2, (1,)), (FAR - 3, ()), (1, (0,))))
        self.same((book.lot_at(3), book.room_count, book.own_count, book.holds((0, 1), FAR - 1)), ((), FAR, 2, False))
        self.same((free_of(book, ()), held_by(book, (0, 1)), free_of(book, (1,))), (3, 3, 1))
        book = AheadBook(Order.plain(Web(1)), [[FAR, 5, 6]])
        self.same(book.spans, ((4, ()), (2, (0,)), (FAR - 7, ()), (1, (0,))))
        self.same((book.rooms_of(0), book.holds_all((0,)), book.own_count), (((5, 6), (FAR, FAR)), False, 0))

    def test_great_needs(self):
        book = AheadBook(PLAIN, ((), (2, MOST), (), ()), (MOST, 0, MOST, MOST))
        self.same(book.rooms_of(0), ((1, 1), (3, MOST - 1), (MOST + 1, MOST + 2)))
        self.same((book.rooms_of(2), book.room_count), (book.rooms_of(0), 2 * MOST))
        self.same(book.rooms_of(3), ((2, 2), (MOST, MOST), (MOST + 3, 2 * MOST)))

    def test_no_thing_and_no_need(self):
        book = AheadBook(Order.plain(Web(0)), ())
        self.same((book.spans, book.rooms_ahead, book.ahead_things, book.own_count, book.needs), ((), (), (), 0, ()))
        book = AheadBook(PLAIN, [(), [], (), []], (0, 0, 0, 0))
        self.same((book.spans, book.rooms_ahead, book.own_count), ((), ((),) * 4, 0))
        book = AheadBook(PLAIN, [(), [1], (), []])
        self.same((book.needs, book.spans), ((1, 1, 1, 1), ((1, (1, 3)), (1, (0, 2)))))

    def test_needs_of_things_ahead_have_no_effect(self):
        for need in (0, 1, MOST):
            book = AheadBook(PLAIN, ((), (3,), (), ()), (1, need, 1, 1))
            self.same((book.spans, book.needs), (((1, (0, 2)), (1, (3,)), (1, (1,))), (1, need, 1, 1)))

    def test_does_not_keep_the_lists(self):
        rooms, needs = [[2, 1], [], [], []], [1, 1, 1, 1]
        book = AheadBook(PLAIN, rooms, needs)
        rooms[0][0] = needs[1] = 9
        rooms[1].append(7)
        self.same((book.rooms_ahead, book.needs), (((1, 2), (), (), ()), (1, 1, 1, 1)))


class Errors(Case):
    def test_bad_rooms(self):
        for value in (0, -1, *NO_INTEGERS):
            self.raises(BadBooking(1), AheadBook, PLAIN, ((), (1, value), 3, ()), (-1,))
        for own in (None, 3, "12", {1: 1}, {1}, True):
            self.raises(BadBooking(2), AheadBook, PLAIN, ((), (1,), own, None))
        self.raises(BadBooking(0), AheadBook, PLAIN, ((2, 1, 2), (0,), (), ()))

    def test_rooms_in_common(self):
        self.raises(BadBooking(1), AheadBook, PLAIN, ((3, 1), (4, 3), (), ()))
        self.raises(BadBooking(3), AheadBook, PLAIN, ((3,), (4,), (3,), [1, 3]))
        self.same(AheadBook(PLAIN, ((3,), (4,), (3,), (4,))).spans, ((2, ()), (1, (0, 2)), (1, (1, 3))))
        # The greater one of two things is told, and the first bad one of all.
        self.raises(BadBooking(1), AheadBook, PLAIN, ((1,), (1,), (0,), ()))
        self.raises(BadBooking(2), AheadBook, PLAIN, ((1,), (2,), (2,), (2,)))

    def test_lengths(self):
        self.raises(BadBooking(3), AheadBook, PLAIN, ((), (), ()), (-1,))
        self.raises(BadBooking(4), AheadBook, PLAIN, [(), (), (), (), (0,)])
        self.raises(BadBooking(0), AheadBook, PLAIN, ())
        self.raises(BadBooking(1), AheadBook, PLAIN, [(), (0,)])

    def test_needs_come_last(self):
        rooms = ((1,), (), (), ())
        for value in (-1, *NO_INTEGERS):
            # Also the need of a thing that is booked ahead must be one.
            self.raises(BadNeeds(0), AheadBook, PLAIN, rooms, (value, 1, 1, 1))
        self.raises(BadNeeds(3), AheadBook, PLAIN, rooms, (1, 1, 1))
        self.raises(BadNeeds(4), AheadBook, PLAIN, rooms, (1, 1, 1, 1, 1))

    def test_the_book_s_errors(self):
        book = AheadBook(PLAIN, ((5,), (), (), ()))
        self.raises(BadThing(4), book.rooms_of, 4)
        self.raises(BadThing(True), book.last_of, True)
        self.raises(BadNumber("room"), book.lot_at, 0)
        self.raises(BadNumber("room"), lambda: book[0])
        self.raises(BadPart(1), book.holds, (0, 0), 0)
        self.raises(BadPart(0), book.holds_all, (9,))
        self.raises(BadPart(0), held_by, book, (4,))
        self.raises(BadPart(1), free_of, book, [1, 1])


if __name__ == "__main__":
    unittest.main()
