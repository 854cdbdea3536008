"""The facts of stage 2: points 19 to 28."""

import unittest
from itertools import permutations, product

from perfectorders.books import Book, book_by_rooms, first_lot, room_count, squeezed
from perfectorders.bounds import heaviest_way, most_ahead
from perfectorders.joins import beside, joined
from perfectorders.knots import full_knots, heaviest
from perfectorders.makers import doubled, mixed_rows
from perfectorders.orders import Order, joined_order, order_by, product_order, put_in_order, same_lead
from perfectorders.products import joint_count, joint_room
from perfectorders.settled import room_ends, rooms_row, settled_bookings
from perfectorders.webs import Web
from tests.by_hand import (Case, all_needs, all_orders, all_webs, clash, full_sets, is_lot, part_web, rooms_by_hand,
                           some_webs, subsets, weight_of)

NEEDS = ((0, 2, 1, 3, 1), (1, 1, 1, 1, 1), (2, 0, 0, 1, 3), (3, 3, 1, 2, 2))


def books():
    for web in some_webs(67):
        for order in all_orders(web)[::13]:
            for needs in NEEDS:
                yield order, needs, Book(order, needs)


class OneBook(Case):
    def test_lots_and_counts(self):
        for order, needs, book in books():
            for count, lot in book:
                self.assertGreaterEqual(count, 1)
                self.assertTrue(is_lot(order.web, lot))
            for thing, need in enumerate(needs):
                self.same(sum(last - first + 1 for first, last in book.rooms_of(thing)), need)

    def test_room_lots_are_first_lots(self):
        for order, needs, book in books():
            held = [0] * 5
            for room in range(1, book.room_count + 1):
                left = [thing for thing in range(5) if held[thing] < needs[thing]]
                self.same(book.lot_at(room), first_lot(order, left))
                for thing in book.lot_at(room):
                    held[thing] += 1

    def test_needs_many_times_over(self):
        for order, needs, book in list(books())[::3]:
            self.same(len(book), len({book.last_of(x) for x in range(5) if needs[x]}))
            self.same(len({lot for _, lot in book}), len(book))
            for times in (1, 2, 7, 10 ** 11):
                more = [times * need for need in needs]
                expected = tuple((times * count, lot) for count, lot in book.spans)
                self.same(Book(order, more).spans, expected)
                self.same(book_by_rooms(order, more), expected)

    def test_no_room_is_empty(self):
        for order, needs, book in books():
            rooms = rooms_by_hand(order.web, order.row, needs)
            for room in range(1, book.room_count + 1):
                self.assertTrue(book.lot_at(room))
            for thing in range(5):
                for room in range(1, book.last_of(thing)):
                    if room not in rooms[thing]:
                        self.assertTrue(any(room in rooms[other] for other in order.ahead_of(thing)))
            self.assertGreaterEqual(book.room_count, heaviest(order.web, needs))
            for knot in full_knots(order.web):
                if book.holds_all(knot):
                    self.same(weight_of(needs, knot), book.room_count)

    def test_two_bounds(self):
        for order, needs, book in books():
            self.assertLessEqual(book.room_count, heaviest_way(order, needs)[0])
            self.assertLessEqual(book.room_count, most_ahead(order, needs)[0])


class TheLead(Case):
    def test_same_lead_same_spans(self):
        for web in some_webs(29, 4):
            for order, other in product(all_orders(web)[::3], repeat=2):
                alike = all(Book(order, needs) == Book(other, needs) for needs in all_needs(4, 1))
                self.same(same_lead(order, other), alike)

    def test_a_clash_led_unlike(self):
        order, other = Order(Web.line(3), (0, 1, 2)), Order(Web.line(3), (1, 0, 2))
        self.same((Book(order, (1, 1, 0)).spans, Book(other, (1, 1, 0)).spans),
                  (((1, (0,)), (1, (1,))), ((1, (1,)), (1, (0,)))))


class SeveralWebs(Case):
    parts = (Order(Web.line(3), (0, 2, 1)), Order(Web.full(2), (1, 0)), Order(Web.line(4), (0, 3, 1, 2)))
    needs = ((2, 1, 3), (1, 2), (1, 2, 1, 1))

    def test_beside_and_joined(self):
        starts = (0, 3, 5)
        whole_needs = [need for needs in self.needs for need in needs]
        alone = [Book(order, needs) for order, needs in zip(self.parts, self.needs)]
        counts = [book.room_count for book in alone]
        mixings = list(mixed_rows([[0] * 3, [1] * 2, [2] * 4], limit=1260))
        self.same(len(mixings), 1260)
        for mixing in mixings[::19]:
            for clashing, count in ((False, max(counts)), (True, sum(counts))):
                book = Book(joined_order(self.parts, mixing, clashing), whole_needs)
                self.same(book.room_count, count)
                for start, one in zip(starts, alone):
                    things = tuple(range(start, start + len(one.order)))
                    expected = tuple((many, tuple(start + x for x in lot)) for many, lot in one.spans)
                    self.same(squeezed(book.spans, things), expected)

    def test_put_in(self):
        for outer in [*all_orders(Web.line(3)), *all_orders(Web(3, [(0, 1)]))]:
            order = put_in_order(outer, self.parts)
            needs = [need for part in self.needs for need in part]
            alone = [Book(one, part) for one, part in zip(self.parts, self.needs)]
            outer_book = Book(outer, [one.room_count for one in alone])
            book = Book(order, needs)
            self.same(book.room_count, outer_book.room_count)
            owner = [0] * 3 + [1] * 2 + [2] * 4
            for room in range(1, book.room_count + 1):
                self.same(tuple(sorted({owner[x] for x in book.lot_at(room)})), outer_book.lot_at(room))
            for start, one in zip((0, 3, 5), alone):
                expected = tuple((many, tuple(start + x for x in lot)) for many, lot in one.spans)
                self.same(squeezed(book.spans, tuple(range(start, start + len(one.order)))), expected)


class Numbers(Case):
    def test_settled_bookings_are_those_of_orders(self):
        for web in some_webs(41):
            self.same(sorted({rooms_row(order) for order in all_orders(web)}), list(settled_bookings(web)))
            for rooms in settled_bookings(web):
                self.same(rooms_row(order_by(web, rooms)), rooms)

    def test_every_number_between_the_ends(self):
        for web in some_webs(17):
            counts = {room_count(order) for order in all_orders(web)}
            least, greatest = room_ends(web)
            self.same(sorted(counts), list(range(least, greatest + 1)))
            self.same(sorted({max(rooms) for rooms in settled_bookings(web)}), list(range(least, greatest + 1)))

    def test_least_number_of_lots(self):
        for web in some_webs(53):
            lots = full_sets(web, range(5), is_lot)
            for size in range(1, 6):
                if any(len(set().union(*picked)) == 5 for picked in product(lots, repeat=size)):
                    self.same(room_ends(web)[0], size)
                    break

    def test_parts_beside_and_joined(self):
        for web in some_webs(131):
            ends = room_ends(web)
            for part in subsets(range(5)):
                low, high = room_ends(part_web(web, part))
                self.assertTrue(low <= ends[0] and high <= ends[1])
        small = [Web(0), Web(1), Web.line(4), Web.ring(5), Web.full(3)]
        for web, other in product(small, repeat=2):
            ends = list(zip(room_ends(web), room_ends(other)))
            self.same(room_ends(beside(web, other)), tuple(max(pair) for pair in ends))
            self.same(room_ends(joined(web, other)), tuple(sum(pair) for pair in ends))


class Products(Case):
    def test_joint_rooms(self):
        webs = [Web(0), Web(1), Web.full(3), Web.line(4), Web.ring(4)]
        for web, other in product(webs, repeat=2):
            for order, second in product(all_orders(web)[::7], all_orders(other)[::7]):
                rooms, rooms_too = rooms_row(order), rooms_row(second)
                expected = tuple(joint_room(rooms[x], rooms_too[y])
                                 for x in range(web.many) for y in range(other.many))
                made = product_order(order, second)
                self.same(rooms_row(made), expected)
                self.same(room_count(made), joint_count(room_count(order), room_count(second)))

    def test_any_order_with_the_same_lead(self):
        order, second = Order(Web.line(3), (1, 0, 2)), Order(Web.full(2), (1, 0))
        made = product_order(order, second)
        others = [Order(made.web, row) for row in permutations(range(6))]
        alike = [other for other in others if same_lead(made, other)]
        self.assertGreater(len(alike), 1)
        for other in alike:
            self.same(rooms_row(other), rooms_row(made))


class DoubledWebs(Case):
    def test_rooms(self):
        for levels in range(1, 6):
            web, row = doubled(levels)
            self.same(room_count(Order(web, row)), levels)
            self.same(heaviest(web), min(levels, 2))
            self.assertFalse(any(clash(web, x, y) and clash(web, y, z) and clash(web, x, z)
                                 for x in row for y in row for z in row))


if __name__ == "__main__":
    unittest.main()
