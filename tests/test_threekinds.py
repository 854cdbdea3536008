"""perfectorders/threekinds.py: [79] kinds by threes, [80] passing, [81] gathered orders, [85] numbers, [86], [87]."""

import unittest
from itertools import permutations, product

from perfectorders.bounds import heaviest_way, most_ahead
from perfectorders.books import room_count
from perfectorders.errors import BadNumber, BadPart
from perfectorders.kinds import keeps
from perfectorders.makers import mixed_rows
from perfectorders.orders import Order, joined_order, put_in_order
from perfectorders.startkinds import early_end
from perfectorders.starts import bad_threes
from perfectorders.threekinds import (between, is_gathered, is_middles_first, is_passing, middle_last, numbers_for,
                                      put_in_kinds, three_needs)
from perfectorders.webs import Web
from tests import by_hand
from tests.by_hand import (Case, NO_INTEGERS, all_needs, all_orders, all_webs, clash, heaviest_weight, near,
                           some_webs, subsets, threes_by_hand)
from tests.test_starts import start_rows

LINE = Web.line(4)
INNER = [Order(web, row) for web, row in ((Web(1), (0,)), (Web.full(2), (1, 0)), (Web(2), (0, 1)),
                                          (Web.line(3), (0, 1, 2)), (Web.line(3), (1, 2, 0)), (Web.line(3), (0, 2, 1)))]


def cases():
    for web in all_webs(4):
        yield from all_orders(web)[::5]
    for web in some_webs(67):
        yield from all_orders(web)[::11]


def split(order):
    """The threes (x < y) by where the middle stands, each list by (m, x, y): between the ends, behind them, ahead."""
    place = {thing: at for at, thing in enumerate(order.row)}
    found = ([], [], [])
    for x, m, y in threes_by_hand(order.web):
        if x < y:
            ahead = (place[x] < place[m]) + (place[y] < place[m])
            found[(2, 0, 1)[ahead]].append((m, x, y))
    return [tuple((x, m, y) for m, x, y in sorted(rows)) for rows in found]


class Kinds(Case):
    def test_where_middles_stand(self):
        for order in cases():
            inner, last, first = split(order)
            self.same((between(order), middle_last(order)), (inner, last))
            self.same((is_passing(order), is_gathered(order)), (not inner, not last))
            self.same(is_middles_first(order), not inner and not last)
            self.same(is_middles_first(order), early_end(order) is None)

    def test_ascending_by_the_middle(self):
        order = Order(Web(5, [(0, 3), (3, 4), (1, 2), (2, 4)]), (0, 1, 2, 3, 4))
        self.same((between(order), middle_last(order)), (((1, 2, 4), (0, 3, 4)), ((2, 4, 3),)))

    def test_edges(self):
        for order in (Order.plain(Web(0)), Order.plain(Web(1)), Order.plain(Web.full(4)), Order.plain(Web(4))):
            self.same((between(order), middle_last(order), is_passing(order), is_gathered(order),
                       is_middles_first(order)), ((), (), True, True, True))
        self.same((is_passing(Order.plain(LINE)), is_gathered(Order.plain(LINE))), (False, True))
        order = Order(Web.line(3), (0, 2, 1))
        self.same((is_passing(order), is_gathered(order), is_middles_first(order)), (True, False, False))

    def test_needs_of_three_things(self):
        self.same((three_needs(LINE, [3, 0, 1]), three_needs(LINE, (0, 1, 2))), ((1, 1, 0, 1), (1, 1, 1, 0)))
        for thing in (4, -1, *NO_INTEGERS):
            self.raises(BadPart(2), three_needs, LINE, (0, 1, thing))
        self.raises(BadPart(1), three_needs, LINE, [1, 1, 0])

    def test_passing_orders(self):
        for order in list(cases())[::3]:
            web = order.web
            good = all(heaviest_way(order, needs)[0] == heaviest_weight(web, needs) for needs in all_needs(web.many, 1))
            self.same(is_passing(order), good)
            for three in between(order)[:1]:
                needs = three_needs(web, three)
                self.same((heaviest_way(order, needs)[0], heaviest_weight(web, needs)), (3, 2))
            if is_passing(order):
                self.assertTrue(keeps(order, "FT"))

    def test_gathered_orders(self):
        for order in list(cases())[::3]:
            web = order.web
            good = all(most_ahead(order, needs)[0] == heaviest_weight(web, needs) for needs in all_needs(web.many, 1))
            self.same(is_gathered(order), good)
            for three in middle_last(order)[:1]:
                needs = three_needs(web, three)
                self.same((most_ahead(order, needs)[0], heaviest_weight(web, needs)), (3, 2))
            if is_gathered(order):
                self.assertTrue(keeps(order, "FD"))

    def test_bounds_are_never_below_the_rooms(self):
        for order in list(cases())[::7]:
            for needs in all_needs(len(order), 2)[::11]:
                rooms = room_count(order, needs)
                self.assertGreaterEqual(min(heaviest_way(order, needs)[0], most_ahead(order, needs)[0]), rooms)
                self.assertGreaterEqual(rooms, heaviest_weight(order.web, needs))

    def test_starts(self):
        """[87]: bad threes of passing and of gathered orders."""
        for order in list(cases())[::5]:
            for starts in start_rows(len(order), 3)[::19]:
                bad = bad_threes(order, starts)
                place = {thing: at for at, thing in enumerate(order.row)}
                if is_passing(order):
                    self.assertTrue(all(place[c] > max(place[b], place[d]) for b, c, d in bad))
                if is_gathered(order):
                    self.assertTrue(all(place[d] < place[c] < place[b] for b, c, d in bad))


class PutIn(Case):
    def test_all_kinds(self):
        for outer in [Order(Web.line(3), row) for row in permutations(range(3))] + [Order.plain(Web(2)), INNER[1]]:
            for orders in product(INNER, repeat=len(outer)):
                whole = put_in_order(outer, orders)
                inner, last, _ = split(whole)
                self.same(put_in_kinds(outer, list(orders)), (not inner, not last))
                passing = all(is_passing(order) for order in (outer, *orders))
                self.same(put_in_kinds(outer, orders)[0], passing)
                gathered = all(is_gathered(order) for order in (outer, *orders)) and all(
                    by_hand.is_knot(orders[v].web, range(len(orders[v])))
                    for v in range(len(outer)) if any(outer.row.index(u) > outer.row.index(v) for u in near(outer.web, v)))
                self.same(put_in_kinds(outer, orders)[1], gathered)

    def test_edges(self):
        self.same(put_in_kinds(Order.plain(Web(0)), []), (True, True))
        self.same(put_in_kinds(Order.plain(Web(1)), [INNER[5]]), (True, False))

    def test_errors(self):
        outer = Order.plain(Web.full(2))
        none = Order.plain(Web(0))
        for orders in ([], [INNER[0]], [INNER[0]] * 3, [none, INNER[0]], (INNER[0], none), [none] * 2, (none,)):
            self.raises(BadNumber("orders"), put_in_kinds, outer, orders)
        self.raises(BadNumber("orders"), put_in_kinds, none, [INNER[0]])

    def test_mixed_orders(self):
        for one, other in product(INNER, repeat=2):
            rows = [[(0, k) for k in range(len(one))], [(1, k) for k in range(len(other))]]
            for mixing in [[number for number, _ in row] for row in mixed_rows(rows)][::3]:
                aside = joined_order([one, other], mixing)
                self.same(is_passing(aside), is_passing(one) and is_passing(other))
                self.same(is_gathered(aside), is_gathered(one) and is_gathered(other))
                whole = joined_order([one, other], mixing, True)
                passing, gathered = self.joined_kinds(one, other, whole)
                self.same((is_passing(whole), is_gathered(whole)), (passing, gathered))

    def joined_kinds(self, one, other, whole):
        size = len(one)
        passing, gathered = is_passing(one) and is_passing(other), is_gathered(one) and is_gathered(other)
        for x, y in product(range(len(whole)), repeat=2):
            if x < y and (x < size) == (y < size) and not clash(whole.web, x, y):
                for z in range(len(whole)):
                    if (z < size) != (x < size):
                        ahead = (whole.row.index(x) < whole.row.index(z)) + (whole.row.index(y) < whole.row.index(z))
                        passing = passing and ahead != 1
                        gathered = gathered and ahead != 2
        return passing, gathered

    def test_parts(self):
        for order in list(cases())[::23]:
            for part in subsets(range(len(order))):
                cut = order.part(part)
                self.assertTrue(is_passing(cut) or not is_passing(order))
                self.assertTrue(is_gathered(cut) or not is_gathered(order))


class Numbers(Case):
    def numbers_by_hand(self, order):
        """By going through all rows of numbers."""
        place = {thing: at for at, thing in enumerate(order.row)}
        found = []
        for numbers in permutations(range(1, len(order) + 1)):
            good = all((numbers[x] > numbers[y]) == ((place[x] < place[y]) == clash(order.web, x, y))
                       for x in range(len(order)) for y in range(x))
            if good:
                found.append(numbers)
        self.assertLessEqual(len(found), 1)
        return found[0] if found else None

    def test_numbers(self):
        for web in all_webs(4):
            for order in all_orders(web)[::3]:
                self.check(order)
        for web in some_webs(201):
            for order in all_orders(web)[::23]:
                self.check(order)

    def check(self, order):
        numbers = self.numbers_by_hand(order)
        self.same(numbers_for(order), numbers)
        contrary = Order(~order.web, order.row)
        self.same(numbers is not None, is_passing(order) and is_passing(contrary))
        if numbers is not None:
            self.assertTrue(keeps(order, "FTCD"))
            rows = [[numbers[thing] for thing in order.row if thing in things] for things in subsets(range(len(order)))]
            falling = [row == sorted(row, reverse=True) for row in rows]
            rising = [row == sorted(row) for row in rows]
            sets = subsets(range(len(order)))
            self.same(falling, [by_hand.is_knot(order.web, things) for things in sets])
            self.same(rising, [by_hand.is_lot(order.web, things) for things in sets])

    def test_falling_webs(self):
        for numbers in permutations(range(1, 6)):
            self.same(numbers_for(Order.plain(Web.falling(numbers))), numbers)

    def test_edges(self):
        self.same((numbers_for(Order.plain(Web(0))), numbers_for(Order.plain(Web(1)))), ((), (1,)))
        self.same((numbers_for(Order(Web.full(3), (2, 0, 1))), numbers_for(Order(Web(3), (2, 0, 1)))),
                  ((2, 1, 3), (2, 3, 1)))
        self.same(numbers_for(Order.plain(Web.line(3))), None)


if __name__ == "__main__":
    unittest.main()
