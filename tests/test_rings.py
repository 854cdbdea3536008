"""perfectorders/rings.py: [94] rings."""

import unittest
from itertools import permutations

from perfectorders.choices import has_right_order
from perfectorders.errors import BadNumber, BadPart, NoneSuch
from perfectorders.joins import joined, put_in
from perfectorders.leads import right_leads
from perfectorders.orders import Order
from perfectorders.rings import blocking_ring, contrary_ring, odd_ring, ring_bad_row, ring_orders, ring_row
from perfectorders.webs import Web
from tests.by_hand import (Case, NO_INTEGERS, all_orders, all_webs, bad_by_hand, clash, count_by_hand,
                           heaviest_weight, ones_on, some_webs, subsets)


def is_round(web, row):
    """Two of the things clash exactly if they are neighbours in the cyclic order."""
    size = len(row)
    return all(clash(web, row[i], row[j]) == (j - i in (1, size - 1)) for i in range(size) for j in range(i + 1, size))


def ways_round(web, things):
    """All ways round the ring from the least thing, by going through all rows of the things."""
    things = sorted(things)
    return [row for row in permutations(things) if row[0] == things[0] and is_round(web, row)] if things else []


def row_by_hand(web, things):
    """The way round that goes on with the lesser neighbour, None if the things are no ring."""
    rows = ways_round(web, things) if len(things) >= 3 else []
    return min(rows, key=lambda row: row[1]) if rows else None


def least_by_hand(web, fits):
    """The ring with the fewest things, of these the least set, whose number of things fits."""
    for size in range(5, web.many + 1):
        for things in subsets(range(web.many)):
            if len(things) == size and fits(size) and ways_round(web, things):
                return row_by_hand(web, things)
    return None


def cases():
    found = [*all_webs(4), *some_webs(17), *some_webs(1201, 6), Web.ring(6), ~Web.ring(6), Web.ring(7), ~Web.ring(7),
             Web.ring(5) + Web(2), Web.ring(5) * Web(1), Web.ring(3) + Web.ring(4), Web.ring(4) * Web.ring(3),
             Web(7, [(6, 1), (1, 4), (4, 0), (0, 3), (3, 6), (2, 5), (5, 6)]),
             Web(7, [(2, 3), (3, 4), (4, 5), (5, 6), (6, 2), (0, 6), (1, 6), (1, 2)])]
    return found


class RingRows(Case):
    def test_all_sets_and_all_ways_round(self):
        for web in cases():
            for things in subsets(range(web.many)):
                expected = row_by_hand(web, things) if len(things) > 3 else None
                self.same(ring_row(web, things), expected)
                self.same(ring_row(web, list(things[::-1])), expected)

    def test_rings_of_three_and_four(self):
        self.same((ring_row(Web.ring(3), (0, 1, 2)), ring_row(Web.ring(3), None)), (None, None))
        self.same(ring_row(Web.ring(4), None), (0, 1, 2, 3))
        self.same(ring_row(Web(4, [(0, 3), (3, 1), (1, 2), (2, 0)]), (0, 1, 2, 3)), (0, 2, 1, 3))

    def test_other_parts(self):
        for part in ((), (0,), [1, 0]):
            self.same(ring_row(Web.ring(6), part), None)
        # Each thing of these parts has two neighbours in it, but there are two rings.
        self.same(ring_row(Web.ring(3) + Web.ring(3), None), None)
        self.same(ring_row(Web.ring(4) + Web.ring(4), None), None)
        self.same(ring_row(Web.ring(4) + Web.ring(4), [7, 5, 4, 6]), (4, 5, 6, 7))
        self.same((ring_row(Web(0), None), ring_row(Web(1), None), ring_row(Web(0), ())), (None, None, None))

    def test_great_rings(self):
        self.same(ring_row(Web.ring(16), None), tuple(range(16)))
        self.same(ring_row(Web.line(16), None), None)

    def test_errors(self):
        for part, place in (([0, 5], 1), ((0, 1, 0), 2), ([-1], 0)):
            self.raises(BadPart(place), ring_row, Web.ring(5), part)
        for value in NO_INTEGERS:
            self.raises(BadPart(1), ring_row, Web.ring(5), (0, value))


class LeastRings(Case):
    def test_by_all_sets(self):
        for web in cases():
            odd = least_by_hand(web, lambda size: size % 2 == 1)
            contrary = least_by_hand(~web, lambda size: True)
            self.same((odd_ring(web), contrary_ring(web)), (odd, contrary))
            expected = None
            if odd is not None:
                expected = ("ring", odd)
            elif contrary is not None:
                expected = ("contrary", contrary)
            self.same(blocking_ring(web), expected)

    def test_fewest_things_first(self):
        # Things 0 to 6 are a ring of seven, the greater ones a ring of five.
        web = Web.ring(7) + Web.ring(5)
        self.same((odd_ring(web), contrary_ring(web)), ((7, 8, 9, 10, 11), (7, 9, 11, 8, 10)))
        self.same(odd_ring(Web.ring(5) + Web.ring(5)), (0, 1, 2, 3, 4))
        self.same(odd_ring(Web.ring(7) + Web.line(5)), (0, 1, 2, 3, 4, 5, 6))

    def test_even_rings(self):
        self.same((odd_ring(Web.ring(6)), contrary_ring(Web.ring(6)), blocking_ring(Web.ring(6))), (None, None, None))
        self.same(blocking_ring(~Web.ring(6)), ("contrary", (0, 1, 2, 3, 4, 5)))
        self.same(odd_ring(~Web.ring(7)), None)
        self.same(contrary_ring(~Web.ring(7)), (0, 1, 2, 3, 4, 5, 6))

    def test_none(self):
        for web in (Web(0), Web(1), Web.full(12), Web.bare(12), Web.line(12), Web.star(9), Web.ring(4), Web.ring(3)):
            self.same((odd_ring(web), contrary_ring(web), blocking_ring(web)), (None, None, None))

    def test_twelve_things(self):
        self.same(odd_ring(Web.ring(11) + Web(1)), tuple(range(11)))
        self.same(contrary_ring(~Web.ring(12)), tuple(range(12)))
        self.same(contrary_ring(Web.ring(12)), None)


class BadRowsOfRings(Case):
    def cases(self):
        five = Web.ring(5)
        yield five + Web(1), (0, 1, 2, 3, 4)
        yield Web(1) * five, (5, 4, 3, 2, 1)
        yield ~Web.ring(6), (0, 1, 2, 3, 4, 5)
        yield Web(6, [(1, 3), (3, 5), (5, 2), (2, 4), (4, 1), (0, 1), (0, 2), (0, 3)]), (1, 2, 3, 4, 5)

    def test_least_one_of_each_order(self):
        for web, part in self.cases():
            for order in all_orders(web)[::7]:
                rows = [row for row in bad_by_hand(web, order.row) if set(row) <= set(part)]
                self.same(ring_bad_row(order, part), rows[0])
                self.same(ring_bad_row(order, list(part)), rows[0])

    def test_more_rooms_on_these_things(self):
        for web, part in self.cases():
            for order in all_orders(web)[::31]:
                things = part if len(part) == 5 else ring_bad_row(order, part)
                needs = ones_on(web.many, things)
                self.assertGreater(count_by_hand(web, order.row, needs), heaviest_weight(web, needs))

    def test_nine_things(self):
        for web, many in ((Web.ring(9), 9), (~Web.ring(9), 9), (~Web.ring(8) + Web(1), 8)):
            order = Order(web, (8, 1, 3, 5, 7, 0, 2, 4, 6))
            self.same(ring_bad_row(order, list(range(many))), bad_by_hand(web, order.row)[0])
        self.raises(NoneSuch("ring"), ring_bad_row, Order.plain(Web.ring(8)), None)

    def test_seven_things(self):
        for web in (Web.ring(7), ~Web.ring(7)):
            for order in all_orders(web)[::397]:
                self.same(ring_bad_row(order, None), bad_by_hand(web, order.row)[0])

    def test_example(self):
        web = Web.ring(5)
        got = (blocking_ring(web), ring_bad_row(Order.plain(web), [4, 3, 2, 1, 0]))
        self.same(got, (("ring", (0, 1, 2, 3, 4)), (0, 4, 3, 2)))

    def test_no_such_ring(self):
        for web, part in ((Web.ring(6), None), (Web.ring(5), (0, 1, 2, 3)), (Web.ring(5), ()), (Web.ring(4), None),
                          (~Web.ring(4), None), (Web.ring(3), [0, 1, 2]), (Web(0), None), (Web.ring(5) + Web(1), None),
                          (Web.full(5), None), (Web.ring(3) + Web.ring(4), None)):
            self.raises(NoneSuch("ring"), ring_bad_row, Order.plain(web), part)

    def test_the_part_comes_first(self):
        for part, place in (([0, 0], 1), ((9,), 0), ((0, 1, True), 2)):
            self.raises(BadPart(place), ring_bad_row, Order.plain(Web.ring(6)), part)


class RightLeads(Case):
    def test_two_right_leads_of_an_even_ring(self):
        for many in (6, 8):
            found = tuple(right_leads(Web.ring(many)))
            self.same(ring_orders(many), found)
        even, odd = ring_orders(16)
        self.assertTrue(all(x % 2 == 0 for x, _ in even) and all(x % 2 == 1 for x, _ in odd))
        self.same((len(even), len(set(even)), even < odd), (16, 16, True))

    def test_by_all_orders(self):
        web = Web.ring(6)
        leads = {order.lead() for order in all_orders(web) if not bad_by_hand(web, order.row)}
        self.same(ring_orders(6), tuple(sorted(leads)))

    def test_other_rings(self):
        self.same([has_right_order(Web.ring(many)) for many in range(3, 11)], [True, True] + [False, True] * 3)
        self.same([has_right_order(~Web.ring(many)) for many in range(5, 11)], [False] * 6)
        self.same(len(list(right_leads(Web.ring(4)))), 14)

    def test_no_part_of_a_web_with_right_orders_blocks(self):
        for web in cases():
            if web.many < 7 and blocking_ring(web) is not None:
                self.same(has_right_order(web), False)
        web = put_in(Web.line(2), [Web.ring(5), Web.bare(2)])
        self.same((blocking_ring(web), has_right_order(web)), (("ring", (0, 1, 2, 3, 4)), False))
        self.same(blocking_ring(joined(Web.line(3), Web.ring(5))), ("ring", (3, 4, 5, 6, 7)))

    def test_bad_many(self):
        for value in (5, 7, 9, 4, 2, 0, -6, *NO_INTEGERS):
            self.raises(BadNumber("many"), ring_orders, value)


if __name__ == "__main__":
    unittest.main()
