"""perfectorders/books.py: [17] books, [18] first lots."""

import unittest
from itertools import product

from perfectorders.books import Book, alike_in_parts, book_by_rooms, first_lot, room_count, squeezed
from perfectorders.errors import BadNeeds, BadNumber, BadPart, BadThing
from perfectorders.orders import Order
from perfectorders.webs import Web
from tests.by_hand import (Case, NO_INTEGERS, all_needs, all_orders, all_webs, clash, first_lot_by_hand,
                           rooms_by_hand, some_webs, spans_by_hand, subsets)


def runs_by_hand(rooms):
    """The rooms as runs (first, last) that neither meet nor follow directly."""
    runs = []
    for room in sorted(rooms):
        if runs and runs[-1][1] == room - 1:
            runs[-1] = (runs[-1][0], room)
        else:
            runs.append((room, room))
    return tuple(runs)


def cases():
    """Orders with small needs."""
    for web in all_webs(3):
        for order in all_orders(web):
            for needs in all_needs(web.many, 3):
                yield order, needs
    for web in some_webs(89):
        for order in all_orders(web)[::17]:
            for needs in all_needs(5, 2)[::19]:
                yield order, needs


class Books(Case):
    def test_spans_and_rooms(self):
        for order, needs in cases():
            book = Book(order, list(needs))
            held = rooms_by_hand(order.web, order.row, needs)
            spans = spans_by_hand(order.web, order.row, needs)
            self.same(book.spans, spans)
            self.same(book.needs, needs)
            self.same(book.order, order)
            self.same(book.room_count, sum(count for count, lot in spans))
            for thing in range(order.web.many):
                self.same(book.rooms_of(thing), runs_by_hand(held[thing]))
                self.same(book.last_of(thing), max(held[thing], default=0))

    def test_room_by_room(self):
        for order, needs in cases():
            self.same(book_by_rooms(order, list(needs)), spans_by_hand(order.web, order.row, needs))
            self.same(room_count(order, needs), len(
                {room for rooms in rooms_by_hand(order.web, order.row, needs).values() for room in rooms}))

    def test_lots_at_rooms(self):
        for order, needs in list(cases())[::7]:
            book = Book(order, needs)
            held = rooms_by_hand(order.web, order.row, needs)
            for room in range(1, book.room_count + 3):
                lot = tuple(thing for thing in range(order.web.many) if room in held[thing])
                self.same(book.lot_at(room), lot)
                self.same(book[room], lot)
            self.same(book.lot_at(10 ** 14), ())

    def test_holds(self):
        for order, needs in list(cases())[::31]:
            book = Book(order, needs)
            held = rooms_by_hand(order.web, order.row, needs)
            for things in subsets(range(order.web.many)):
                rooms = {room for thing in things for room in held[thing]}
                for room in range(1, book.room_count + 3):
                    self.same(book.holds(list(things[::-1]), room), room in rooms)
                self.same(book.holds_all(things), rooms == set(range(1, book.room_count + 1)))

    def test_the_document_s_examples(self):
        book = Book(Order.plain(Web.line(3)), (1, 1, 3))
        self.same((book.spans, book.rooms_of(2), book.room_count, book[2]),
                  (((1, (0, 2)), (1, (1,)), (2, (2,))), ((1, 1), (3, 4)), 4, (1,)))
        self.same(Book(Order.plain(Web.line(4)), (3, 0, 2, 10 ** 9)).spans,
                  ((2, (0, 2)), (1, (0, 3)), (999999999, (3,))))

    def test_needs_of_none(self):
        for web in some_webs(97):
            order = Order.plain(web)
            self.same(Book(order).spans, Book(order, (1,) * 5).spans)
            self.same(Book(order).needs, (1,) * 5)
            self.same(book_by_rooms(order), Book(order).spans)
            self.same(room_count(order), Book(order).room_count)

    def test_no_thing_and_no_need(self):
        for order in (Order(Web(0), ()), Order.plain(Web(1)), Order.plain(Web.line(4))):
            book = Book(order, (0,) * len(order))
            self.same((book.spans, book.room_count, len(book), tuple(book), book.lot_at(1)), ((), 0, 0, (), ()))
            self.same((book.holds_all(()), book.holds((), 1)), (True, False))
            self.same((book_by_rooms(order, (0,) * len(order)), room_count(order, [0] * len(order))), ((), 0))
        self.same(Book(Order.plain(Web(1)), (0,)).rooms_of(0), ())
        self.same(Book(Order.plain(Web(1)), (0,)).last_of(0), 0)

    def test_great_needs(self):
        order = Order(Web.line(4), (0, 3, 1, 2))
        most = 10 ** 12
        spans = ((most, (0, 3)), (most, (1,)), (most, (2,)))
        self.same(Book(order, (most,) * 4).spans, spans)
        self.same(book_by_rooms(order, (most,) * 4), spans)
        book = Book(order, (most, 1, most, most))
        self.same(book.rooms_of(2), ((most + 2, 2 * most + 1),))
        self.same(book.rooms_of(1), ((most + 1, most + 1),))
        self.same((book.room_count, book.last_of(2), book.lot_at(most), book.lot_at(most + 1), book.lot_at(2 * most)),
                  (2 * most + 1, 2 * most + 1, (0, 3), (1,), (2,)))
        self.same((book.holds((1,), most + 1), book.holds((1, 2), most), book.holds((0,), 1)), (True, False, True))
        sixteen = Order.plain(Web.full(16))
        self.same(Book(sixteen, (most,) * 16).room_count, 16 * most)
        self.same(book_by_rooms(sixteen, (most,) * 16), tuple((most, (thing,)) for thing in range(16)))

    def test_rooms_between_others(self):
        # The last thing takes the rooms 1, 3 and 5 and 6, between those of its clashing things.
        web = Web(4, [(0, 1), (0, 2), (1, 2), (1, 3), (2, 3)])
        order = Order(web, (0, 1, 2, 3))
        book = Book(order, (1, 1, 1, 4))
        self.same(book.rooms_of(3), ((1, 1), (4, 6)))
        self.same(Book(Order(Web.line(3), (0, 1, 2)), (2, 3, 6)).rooms_of(2), ((1, 2), (6, 9)))
        self.same(Book(Order(Web.line(3), (0, 1, 2)), (2, 3, 2)).rooms_of(2), ((1, 2),))

    def test_signs(self):
        book = Book(Order.plain(Web.line(3)), (1, 1, 3))
        self.same(len(book), 3)
        self.same(tuple(book), book.spans)
        self.same(book == Book(Order(Web.line(3), (0, 2, 1)), (1, 1, 3)), False)
        self.same(book == Book(Order(Web(3, [(0, 1), (1, 2)]), (0, 1, 2)), (1, 1, 3)), True)
        # Books are equal by their spans alone.
        self.same(Book(Order(Web.bare(2), (0, 1))) == Book(Order(Web.bare(2), (1, 0))), True)
        self.same(Book(Order.plain(Web.bare(2)), (1, 0)) == Book(Order.plain(Web(1))), True)
        self.same(Book(Order.plain(Web.bare(2)), (1, 0)) != Book(Order.plain(Web(1))), False)
        for value in (book.spans, None, 3, book.order):
            self.same(book == value, False)
            self.same(book != value, True)


class Errors(Case):
    def test_bad_needs(self):
        order = Order.plain(Web.line(3))
        for call in (Book, room_count, book_by_rooms):
            self.raises(BadNeeds(1), call, order, (1, -1, True))
            self.raises(BadNeeds(2), call, order, [1, 1])
            self.raises(BadNeeds(3), call, order, [1, 1, 1, 1])
            self.raises(BadNeeds(0), call, order, (True, 1, 1))

    def test_bad_arguments(self):
        book = Book(Order.plain(Web.line(3)))
        for thing in (3, -1, *NO_INTEGERS):
            self.raises(BadThing(thing), book.rooms_of, thing)
            self.raises(BadThing(thing), book.last_of, thing)
        for room in (0, -1, *NO_INTEGERS):
            self.raises(BadNumber("room"), book.lot_at, room)
            self.raises(BadNumber("room"), lambda: book[room])
            self.raises(BadNumber("room"), book.holds, (0,), room)
            self.raises(BadPart(1), book.holds, (0, 3), room)
        self.raises(BadPart(1), book.holds_all, [0, 0])
        self.raises(BadPart(0), book.holds_all, [True])

    def test_does_not_keep_the_list(self):
        needs = [1, 2, 3]
        book = Book(Order.plain(Web.line(3)), needs)
        needs[0] = 7
        self.same(book.needs, (1, 2, 3))


class FirstLots(Case):
    def test_all_parts(self):
        for web in [*all_webs(4), *some_webs(301)]:
            for order in all_orders(web)[::3]:
                self.same(first_lot(order), first_lot_by_hand(web, order.row, range(web.many)))
                for part in subsets(range(web.many)):
                    self.same(first_lot(order, list(part[::-1])), first_lot_by_hand(web, order.row, part))
        self.same((first_lot(Order(Web(0), ())), first_lot(Order.plain(Web(2)), ())), ((), ()))

    def test_bad_part(self):
        self.raises(BadPart(1), first_lot, Order.plain(Web.line(3)), [0, 3])
        self.raises(BadPart(2), first_lot, Order.plain(Web.line(3)), (0, 1, 0))


class AlikeInParts(Case):
    def test_least_clash_led_unlike(self):
        for web in all_webs(3):
            for order, other in product(all_orders(web), repeat=2):
                unlike = [(x, y) for x in range(web.many) for y in range(x + 1, web.many)
                          if clash(web, x, y) and (order.row.index(x) < order.row.index(y))
                          != (other.row.index(x) < other.row.index(y))]
                self.same(alike_in_parts(order, other), unlike[0] if unlike else None)

    def test_all_parts_are_booked_alike(self):
        for web in some_webs(211, 4):
            for order, other in product(all_orders(web)[::5], repeat=2):
                alike = all(spans_by_hand(web, order.row, needs) == spans_by_hand(web, other.row, needs)
                            for needs in all_needs(4, 1))
                self.same(alike_in_parts(order, other) is None, alike)

    def test_unequal_webs(self):
        self.raises(BadNumber("web"), alike_in_parts, Order.plain(Web.line(3)), Order.plain(Web.full(3)))
        self.raises(BadNumber("web"), alike_in_parts, Order.plain(Web(3)), Order.plain(Web(2)))


class Squeezed(Case):
    def test_cut_left_out_and_made_one(self):
        spans = ((2, (0, 2)), (1, (1,)), (3, (0, 3)), (1, (0,)), (5, (2,)))
        self.same(squeezed(spans, (0,)), ((6, (0,)),))
        self.same(squeezed(list(spans), [2, 0]), ((2, (0, 2)), (4, (0,)), (5, (2,))))
        self.same(squeezed(spans, (1, 3)), ((1, (1,)), (3, (3,))))
        self.same(squeezed(spans, (0, 1, 2, 3)), spans)
        self.same(squeezed(spans, ()), ())
        self.same(squeezed((), (0, 1)), ())
        self.same(squeezed([(10 ** 12, (1, 4)), (10 ** 12, (1, 5))], (1,)), ((2 * 10 ** 12, (1,)),))

    def test_lots_of_any_kind(self):
        self.same(squeezed([[1, [2, 0]], [2, [0, 2]]], [0, 2]), ((3, (0, 2)),))


if __name__ == "__main__":
    unittest.main()
