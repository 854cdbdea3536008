"""The facts of stage 3 on which right.py and lots.py rest: points 31 to 39 and 44; and point 83."""

import unittest
from itertools import permutations, product

from perfectorders.books import Book, first_lot, room_count
from perfectorders.errors import NoneSuch
from perfectorders.knots import heaviest, heaviest_knots, knots_of, lots_of
from perfectorders.lots import common_thing, first_rooms_out, left_out, missed_knots, missed_part
from perfectorders.orders import Order
from perfectorders.quads import rows_of_four
from perfectorders.right import bad_rows, counter_needs, counter_pair, counter_part, first_bad, is_right
from perfectorders.settled import room_ends, settled_bookings
from perfectorders.webs import Web
from tests.by_hand import Case, all_needs, all_orders, all_webs, near, ones_on, part_web, some_webs, subsets


def cases():
    """All orders of webs of four things, and some of webs of five things that have rows of four."""
    for web in all_webs(4, 4):
        if rows_of_four(web):
            yield from all_orders(web)
    for web in some_webs(1, 5)[::71]:
        yield from all_orders(web)[::17]


class RightOrders(Case):
    def test_all_needs(self):
        for order in cases():
            many = len(order)
            reached = all(room_count(order, needs) == heaviest(order.web, needs) for needs in all_needs(many, 1))
            self.same(is_right(order), reached)
            if is_right(order):
                for needs in all_needs(many, 3)[::41]:
                    self.same(room_count(order, needs), heaviest(order.web, needs))

    def test_needs_that_show_it(self):
        for order in cases():
            row = first_bad(order)
            if row is None:
                continue
            on_row = ones_on(len(order), row)
            self.same((room_count(order, on_row), heaviest(order.web, on_row)), (3, 2))
            book = Book(order, on_row)
            a, b, c, d = row
            self.assertTrue(book.holds((a,), 1) and book.holds((d,), 1) and not book.holds((b, c), 1))
            needs = counter_needs(order)
            self.assertGreater(room_count(order, needs), heaviest(order.web, needs))
            part = counter_part(order)
            self.same(bad_rows(order.part(part)), (first_bad(order.part(part)),))

    def test_parts_of_right_orders(self):
        for order in cases():
            for part in subsets(range(len(order))):
                if is_right(order):
                    self.assertTrue(is_right(order.part(part)))

    def test_together_and_apart(self):
        for order in list(cases())[::5]:
            many = len(order)
            pairs = list(product(all_needs(many, 1)[::3], all_needs(many, 1)))
            together = all(room_count(order, [x + y for x, y in zip(needs, other)])
                           <= room_count(order, needs) + room_count(order, other) for needs, other in pairs)
            if is_right(order):
                self.assertTrue(together)
            else:
                needs, other = counter_pair(order)
                both = [x + y for x, y in zip(needs, other)]
                self.same((room_count(order, needs), room_count(order, other), room_count(order, both)), (1, 1, 3))


class FirstLots(Case):
    def test_each_part(self):
        for order in cases():
            missed = [part for part in subsets(range(len(order))) if missed_knots(order, part)]
            self.same(is_right(order), not missed)
            if missed:
                things, middles = missed_part(order)
                a, b, c, d = first_bad(order)
                self.same(first_lot(order, things), tuple(sorted((a, d))))
                self.assertIn(middles, missed_knots(order, things))

    def test_one_thing_for_a_whole_knot(self):
        for order in list(cases())[::7]:
            failed = False
            for knot in list(knots_of(order.web))[1:]:
                for lot in lots_of(order.web):
                    try:
                        failed = failed or common_thing(order, knot, lot) is None
                    except NoneSuch:
                        pass
            self.same(is_right(order), not failed)
            if failed:
                a, b, c, d = first_bad(order)
                self.same(common_thing(order, (b, c), (a, d)), None)

    def test_lots_left_out(self):
        for order in list(cases())[::7]:
            lots = list(lots_of(order.web))
            within = all(left_out(order, [lot], part) <= 1 for part in subsets(range(len(order))) for lot in lots)
            self.same(is_right(order), within)
            if is_right(order):
                for lot, other in product(lots, repeat=2):
                    self.assertLessEqual(left_out(order, (lot, other)), 2)
            else:
                a, b, c, d = first_bad(order)
                self.same(left_out(order, [(a, c)], counter_part(order)), 2)


class FirstRooms(Case):
    def test_what_is_left(self):
        for order in list(cases())[::3]:
            for needs in all_needs(len(order), 2)[::31]:
                book = Book(order, needs)
                for many in range(book.room_count + 1):
                    left = first_rooms_out(book, many)
                    rest = Book(order, left)
                    self.same(rest.room_count, book.room_count - many)
                    for room in range(1, rest.room_count + 1):
                        self.same(rest.lot_at(room), book.lot_at(many + room))
                    if is_right(order):
                        self.same(heaviest(order.web, left), heaviest(order.web, needs) - many)

    def test_heaviest_knots_stay_heaviest(self):
        order = Order.plain(Web.line(5))
        needs = (2, 1, 2, 1, 2)
        book = Book(order, needs)
        left = first_rooms_out(book, 1)
        for knot in heaviest_knots(order.web, needs):
            self.same(sum(left[thing] for thing in knot), heaviest(order.web, left))


class Beginnings(Case):
    def test_first_places(self):
        for order in cases():
            many = len(order)
            holds = True
            for needs in all_needs(many, 1):
                before = 0
                for place, thing in enumerate(order.row):
                    on_first = [needs[x] if x in order.row[:place + 1] else 0 for x in range(many)]
                    ahead = [needs[x] if x in order.row[:place] and x in near(order.web, thing) else 0
                             for x in range(many)]
                    after = room_count(order, on_first)
                    holds = holds and after == max(before, needs[thing] + heaviest(order.web, ahead))
                    if is_right(order):
                        self.same(after, heaviest(order.web, on_first))
                        self.assertLessEqual(after, before + needs[thing])
                    before = after
            self.same(is_right(order), holds)


class EveryOrder(Case):
    def test_webs_without_rows_of_four(self):
        for web in [*all_webs(4), *some_webs(37)]:
            no_row = not rows_of_four(web)
            self.same(all(is_right(order) for order in all_orders(web)), no_row)
            parts = [part_web(web, part) for part in subsets(range(web.many))]
            self.same(all(room_ends(part)[1] == heaviest(part) for part in parts), no_row)
            self.same(all(max(rooms, default=0) == heaviest(part) for part in parts
                          for rooms in settled_bookings(part)), no_row)

    def test_orders_that_begin_so(self):
        for web in [*some_webs(101), Web.line(5)]:
            for a, b, c, d in rows_of_four(web):
                for row in ((a, d, b, c), (d, a, c, b)):
                    for rest in permutations([x for x in range(5) if x not in row]):
                        self.same(is_right(Order(web, (*row, *rest))), False)


if __name__ == "__main__":
    unittest.main()
