"""perfectorders/choices.py: [91] choices, [92] rings of arrows, [93] choice trees."""

import unittest
from itertools import islice, permutations, product
from random import Random

from perfectorders.choices import (check_choice, choice_of, choice_ring, choice_tree, fits_choice, has_right_order,
                                   is_choice_tree, order_of_choice, right_order, right_order_count, right_orders)
from perfectorders.errors import BadNumber, NoOrder, NotRight, TooMany
from perfectorders.orders import Order
from perfectorders.right import is_right
from perfectorders.webs import Web
from tests.by_hand import (Case, NO_INTEGERS, all_orders, all_webs, bad_by_hand, rows_by_hand, some_webs)

LINE = Web.line(5)
RING = Web.ring(5)
WRONG = Order(Web.line(4), (0, 3, 1, 2))


def webs():
    """Webs with rows of four, few enough for all choices."""
    found = [web for web in [*all_webs(4, 4), *some_webs(29), RING, LINE, Web.ring(6), Web.line(6), ~Web.line(6)]]
    return [web for web in found if 0 < len(rows_by_hand(web)) <= 6]


def choices_of(web):
    return list(product(*[(row[0], row[3]) for row in rows_by_hand(web)]))


def arrows_by_hand(web, choice):
    return {(row[1], end) if end == row[0] else (row[2], end) for end, row in zip(choice, rows_by_hand(web))}


def rings_by_hand(many, arrows):
    """All rings of unlike things, by going through all rows of things."""
    return [row for size in range(2, many + 1) for row in permutations(range(many), size)
            if all((x, y) in arrows for x, y in zip(row, row[1:] + row[:1]))]


def least_ring_by_hand(many, arrows):
    rings = rings_by_hand(many, arrows)
    if not rings:
        return None
    least = min(min(ring) for ring in rings)
    return min((ring for ring in rings if ring[0] == least), key=lambda ring: (len(ring), ring))


def fitting(web, arrows):
    return [row for row in permutations(range(web.many))
            if all(row.index(x) < row.index(y) for x, y in arrows)]


def tree_by_hand(web, arrows):
    ring = least_ring_by_hand(web.many, arrows)
    if ring is not None:
        return ring
    for a, b, c, d in rows_by_hand(web):
        if (b, a) not in arrows and (c, d) not in arrows:
            return ((a, b, c, d), tree_by_hand(web, arrows | {(b, a)}), tree_by_hand(web, arrows | {(c, d)}))
    raise AssertionError("the web has a right order")


def right_rows_by_hand(web):
    return [row for row in permutations(range(web.many)) if not bad_by_hand(web, row)]


class Choices(Case):
    def test_checks(self):
        for web in webs():
            for choice in choices_of(web):
                self.same(check_choice(web, list(choice)), choice)
        self.same((check_choice(Web(0), []), check_choice(Web.full(4), ())), ((), ()))

    def test_bad_choices(self):
        calls = [lambda choice: check_choice(LINE, choice), lambda choice: fits_choice(Order.plain(LINE), choice),
                 lambda choice: choice_ring(LINE, choice), lambda choice: order_of_choice(LINE, choice)]
        wrong = [(), (0,), (0, 1, 0), [0, 4, 4], (1, 4), (0, 0), (4, 4), (0, 5), (0, -1), None, 3, "04"]
        wrong.extend((0, value) for value in NO_INTEGERS)
        for call, choice in product(calls, wrong):
            self.raises(BadNumber("choice"), call, choice)
        # True is no thing, although it equals 1.
        self.raises(BadNumber("choice"), check_choice, LINE, (0, True))
        self.raises(BadNumber("choice"), check_choice, Web(3), (0,))

    def test_choices_of_orders(self):
        for web in webs():
            for order in all_orders(web)[::1 + web.many ** 2 // 5]:
                bad = bad_by_hand(web, order.row)
                if bad:
                    self.raises(NotRight(bad[0]), choice_of, order)
                    self.assertFalse(any(fits_choice(order, choice) for choice in choices_of(web)))
                    continue
                place = order.row.index
                told = tuple(a if place(b) < place(a) else d for a, b, c, d in rows_by_hand(web))
                self.same(choice_of(order), told)
                self.same(fits_choice(order, told), True)
        self.same((choice_of(Order.plain(Web(0))), choice_of(Order.plain(Web.full(3)))), ((), ()))

    def test_orders_that_fit(self):
        for web in webs():
            rows = all_orders(web)[::1 + web.many ** 2 // 5]
            for choice in choices_of(web)[::3]:
                arrows = arrows_by_hand(web, choice)
                for order in rows:
                    fits = all(order.row.index(x) < order.row.index(y) for x, y in arrows)
                    self.same(fits_choice(order, list(choice)), fits)
                    if fits:
                        self.assertTrue(is_right(order))

    def test_rings_and_orders(self):
        for web in webs():
            for choice in choices_of(web)[::1 + web.many // 6]:
                arrows = arrows_by_hand(web, choice)
                ring = least_ring_by_hand(web.many, arrows)
                self.same(choice_ring(web, list(choice)), ring)
                rows = fitting(web, arrows)
                self.same(ring is None, bool(rows))
                if rows:
                    self.same(order_of_choice(web, list(choice)), Order(web, rows[0]))
                else:
                    self.raises(NoOrder(), order_of_choice, web, choice)

    def test_the_document_s_example(self):
        self.same((order_of_choice(LINE, (0, 4)).row, choice_of(Order.plain(LINE))), ((1, 0, 2, 3, 4), (3, 4)))

    def test_edges(self):
        for web in (Web(0), Web(1), Web.full(4), Web.star(5)):
            order = Order.plain(web)
            self.same((choice_of(order), fits_choice(order, ()), choice_ring(web, []), order_of_choice(web, ())),
                      ((), True, None, order))
        # Two arrows between the same two things are a ring of two.
        self.same(choice_ring(LINE, (3, 1)), None)
        self.same(choice_ring(Web.line(6), (0, 1, 2)), None)
        self.same(choice_ring(Web.line(6), (3, 1, 2)), (2, 3))
        self.raises(NoOrder(), order_of_choice, Web.line(6), (3, 1, 2))

    def test_the_ring_through_the_least_thing(self):
        """A longer ring through a lesser thing comes before a shorter one."""
        found = set()
        for choice in choices_of(Web.ring(6)):
            ring = choice_ring(Web.ring(6), choice)
            found.add(ring and len(ring))
            self.same(ring, least_ring_by_hand(6, arrows_by_hand(Web.ring(6), choice)))
        self.assertLessEqual({None, 2, 6}, found)


class Trees(Case):
    def without_right_order(self):
        found = [web for web in some_webs(1) if rows_by_hand(web) and not right_rows_by_hand(web)]
        more = [~Web.line(6) + Web(0), ~Web.ring(6), RING + Web(1), Web(2) + RING, RING * Web(1),
                Web(6, [*RING.clashes, (5, 0), (5, 1)]), Web(6, [(x + 1, y + 1) for x, y in RING.clashes] + [(0, 3)])]
        return found[::9] + [web for web in more if not right_rows_by_hand(web)]

    def test_trees(self):
        for web in self.without_right_order():
            tree = choice_tree(web)
            self.same(tree, tree_by_hand(web, frozenset()))
            self.same(is_choice_tree(web, tree), True)
            self.same((has_right_order(web), is_choice_tree(web, ())), (False, False))

    def test_going_down(self):
        for web in self.without_right_order()[::5]:
            rows = rows_by_hand(web)
            for choice in choices_of(web)[::7]:
                tree = choice_tree(web)
                arrows = arrows_by_hand(web, choice)
                while isinstance(tree[0], tuple):
                    row, first, second = tree
                    tree = first if choice[rows.index(row)] == row[0] else second
                self.assertTrue(all((x, y) in arrows for x, y in zip(tree, tree[1:] + tree[:1])))

    def test_none_if_there_is_a_right_order(self):
        for web in [Web(0), Web(1), LINE, *webs()]:
            if right_rows_by_hand(web):
                self.same((choice_tree(web), has_right_order(web)), (None, True))
                self.same(is_choice_tree(web, None), False)

    def test_a_tree_of_the_ring_of_five(self):
        tree = choice_tree(RING)
        self.same(tree, tree_by_hand(RING, frozenset()))
        self.same(tree[0], rows_by_hand(RING)[0])
        (a, b, c, d), first, second = tree
        # A row may be read from the other end, the two trees then change places.
        self.same(is_choice_tree(RING, ((d, c, b, a), second, first)), True)
        self.same(is_choice_tree(RING, ((d, c, b, a), first, second)), False)
        self.same(is_choice_tree(RING, (tree[0], first, first)), False)
        # A row may occur again, and below arrows that have a ring a row may stand.
        self.same(is_choice_tree(RING, (tree[0], (tree[0], first, (tree[0], first, second)), second)), True)
        self.same(is_choice_tree(RING, (tree[0], tree, tree)), True)

    def deepest_ring(self, tree):
        """A way down to a ring: the rows with the trees beside it, and the ring."""
        way = []
        while isinstance(tree[0], tuple):
            row, first, second = tree
            way.append((row, second))
            tree = first
        return way, tree

    def put_back(self, way, tree):
        for row, second in way[::-1]:
            tree = (row, tree, second)
        return tree

    def test_rings_at_the_ends(self):
        way, ring = self.deepest_ring(choice_tree(RING))
        turned = ring[1:] + ring[:1]
        arrows = {(row[1], row[0]) for row, _ in way}
        self.assertTrue(all((x, y) in arrows for x, y in zip(ring, turned)))
        for tree in (ring, turned, ring + ring):
            self.same(is_choice_tree(RING, self.put_back(way, tree)), True)
        wrong = [(), (ring[0],), ring[:-1] + (9,), list(ring), None, 3, "01", ring + (True,), (ring,), (ring, ring),
                 (0, 0), (0, 2), tuple(map(str, ring)), (way[0][0],), (way[0][0], ring), (way[0][0], ring, ring, ring),
                 (list(way[0][0]), ring, ring), ((0, 1, 2), ring, ring), ((0, 2, 4, 1), ring, ring),
                 ((0, 1, 2, True), ring, ring), ((0, 1, 2, 9), ring, ring), ((0, 1, 2, [3]), ring, ring)]
        if len(ring) > 2:
            wrong.append(ring[::-1])
        for tree in wrong:
            self.same(is_choice_tree(RING, self.put_back(way, tree)), False, tree)

    def test_any_value(self):
        for value in (None, 0, True, "", "tree", (), [], {}, (0,), (0, 1), ((0, 1, 2, 3), 1, 2), RING, (None, None, None),
                      ((), (), ()), ([0, 1, 2, 3], (), ()), [choice_tree(RING)], list(choice_tree(RING))):
            for web in (RING, LINE, Web(0), Web(3)):
                self.same(is_choice_tree(web, value), False)

    def test_true_is_no_thing(self):
        def spoilt(tree):
            if isinstance(tree, tuple):
                return tuple(spoilt(part) for part in tree)
            return True if tree == 1 else tree
        self.same(is_choice_tree(RING, spoilt(choice_tree(RING))), False)

    def test_deep_trees(self):
        tree = choice_tree(RING)
        deep = tree
        for _ in range(20000):
            deep = (tree[0], tree[1], deep)
        self.same(is_choice_tree(RING, deep), True)
        deep = ()
        for _ in range(20000):
            deep = (tree[0], tree[1], deep)
        self.same(is_choice_tree(RING, deep), False)

    def test_twelve_things(self):
        for web in (Web.ring(11) + Web(1), ~Web.ring(12), Web.line(7) + RING, RING * Web.line(7), ~Web.ring(9) + Web(3)):
            tree = choice_tree(web)
            self.same((is_choice_tree(web, tree), has_right_order(web)), (True, False))
            self.raises(NoOrder(), right_order, web)
        self.same((choice_tree(Web.ring(12)), choice_tree(Web.full(12))), (None, None))


class RightOrders(Case):
    def cases(self):
        chance = Random(7)
        found = [*all_webs(4), *some_webs(13), RING, Web.ring(6), Web.line(6)]
        for number in range(24):
            pairs = [(x, y) for y in range(6) for x in range(y) if chance.random() < 0.3 + number % 5 / 10]
            found.append(Web(6, pairs))
        return found

    def test_seven_things_one_of_which_is_never_last(self):
        # No right order of this web ends with thing 0.
        web = Web(7, [(0, 2), (0, 4), (1, 2), (1, 3), (1, 6), (2, 3), (3, 5), (5, 6)])
        rows = right_rows_by_hand(web)
        self.assertTrue(rows and all(row[-1] != 0 for row in rows))
        self.same((has_right_order(web), right_order(web).row, right_order_count(web)), (True, rows[0], len(rows)))
        self.same([order.row for order in right_orders(web)], rows)

    def test_all_right_orders(self):
        for web in self.cases():
            rows = right_rows_by_hand(web)
            self.same([order.row for order in right_orders(web)], rows)
            self.same((right_order_count(web), has_right_order(web)), (len(rows), bool(rows)))
            if rows:
                self.same(right_order(web), Order(web, rows[0]))
            else:
                self.raises(NoOrder(), right_order, web)

    def test_a_right_order_if_some_choice_has_no_ring(self):
        for web in webs():
            some = any(choice_ring(web, choice) is None for choice in choices_of(web))
            self.same(has_right_order(web), some)

    def test_seven_things(self):
        web = Web.line(7)
        orders = list(right_orders(web))
        self.same((len(orders), right_order_count(web), right_order_count(Web.bare(7))), (len(orders), len(orders), 5040))
        self.assertTrue(all(is_right(order) and order.web == web for order in orders))
        self.assertTrue(all(one.row < two.row for one, two in zip(orders, orders[1:])))
        self.same(right_order_count(Web.ring(7)), 0)
        self.same(list(right_orders(Web.ring(7))), [])
        told = right_orders(Web.bare(7))
        self.same([order.row for order in islice(told, 2)], [(0, 1, 2, 3, 4, 5, 6), (0, 1, 2, 3, 4, 6, 5)])

    def test_too_many_things(self):
        for web in (Web(8), Web.line(9), RING + Web(3)):
            self.raises(TooMany(7), right_order_count, web)
            told = right_orders(web)
            self.raises(TooMany(7), next, told)

    def test_least_right_orders_of_twelve_things(self):
        """The least row, although other beginnings with lesser things lead nowhere."""
        self.same(right_order(Web.line(12)).row, (0, 1, 2, 3, 4, 5, 6, 7, 8, 9, 10, 11))
        web = Web.ring(12)
        self.same(right_order(web).row, (0, 2, 1, 4, 3, 6, 5, 8, 7, 10, 9, 11))
        web = Web(12, [(11 - x, 11 - y) for x, y in Web.ring(6).clashes] + [(0, 11), (0, 9)])
        self.assertTrue(is_right(right_order(web)))
        self.same((right_order(Web(0)), right_order(Web.full(12)).row), (Order(Web(0), ()), tuple(range(12))))


if __name__ == "__main__":
    unittest.main()
