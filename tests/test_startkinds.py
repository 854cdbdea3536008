"""perfectorders/startkinds.py: [68] all starts, [69] webs with such an order, [71] the starts of one thing."""

import unittest
from itertools import permutations

from perfectorders.errors import BadNumber, BadPart, BadThing, NoOrder
from perfectorders.orders import Order
from perfectorders.startkinds import all_starts_order, barring_four, early_end, pieces, start_run, starts_for
from perfectorders.starts import bad_threes, starts_fit
from perfectorders.webs import Web
from tests.by_hand import (Case, NO_INTEGERS, all_orders, all_webs, at, bad_by_hand, clash, near, rows_by_hand,
                           some_webs, subsets, threes_by_hand)
from tests.test_starts import bad_threes_by_hand, start_rows

LINE = Web.line(4)
PLAIN = Order.plain(LINE)
MOST = 10 ** 12


def webs():
    return [*all_webs(4), *some_webs(41)]


def pieces_by_hand(web, part):
    found = []
    left = sorted(part)
    while left:
        piece = {left[0]}
        while True:
            more = {y for x in piece for y in near(web, x) if y in part} - piece
            if not more:
                break
            piece |= more
        found.append(tuple(sorted(piece)))
        left = [thing for thing in left if thing not in piece]
    return tuple(found)


def all_starts_by_hand(web):
    """The row of the order, None if some step finds no thing."""
    left = list(range(web.many))
    row = []
    while left:
        free = [x for piece in pieces_by_hand(web, left) for x in piece
                if all(y == x or clash(web, x, y) for y in piece)]
        if not free:
            return None
        row.append(min(free))
        left.remove(min(free))
    return tuple(row)


def rings_by_hand(web):
    return sorted((a, b, c, d) for a, b, c, d in permutations(range(web.many), 4)
                  if a == min(a, b, c, d) and b < d and clash(web, a, b) and clash(web, b, c) and clash(web, c, d)
                  and clash(web, d, a) and not clash(web, a, c) and not clash(web, b, d))


def early_by_hand(order):
    place = {thing: at for at, thing in enumerate(order.row)}
    found = [(m, y, x) for x, m, y in threes_by_hand(order.web) if place[y] < place[m]]
    if not found:
        return None
    m, y, x = min(found)
    return (x, m, y)


class AllStarts(Case):
    def test_early_ends(self):
        for web in webs():
            for order in all_orders(web)[::5]:
                self.same(early_end(order), early_by_hand(order))

    def test_three_ways_to_say_it(self):
        for web in [*all_webs(4), *some_webs(301)]:
            for order in all_orders(web)[::3]:
                first = all(self.spans(order, part) for part in subsets(range(web.many))
                            if len(pieces_by_hand(web, part)) == 1)
                self.same(early_end(order) is None, first)
                if web.many < 5:
                    fit = all(starts_fit(order, starts) for starts in start_rows(web.many, 2))
                    self.same(fit, first)

    def spans(self, order, part):
        first = min(part, key=order.row.index)
        return all(x == first or clash(order.web, first, x) for x in part)

    def test_starts_that_show_it(self):
        for web in webs():
            for order in all_orders(web)[::5]:
                three = early_end(order)
                if three is not None:
                    starts = starts_for(web, three)
                    self.same(starts, tuple(2 if thing == three[0] else 1 for thing in range(web.many)))
                    self.same(starts_fit(order, starts), False)
                    self.assertIn(three, bad_threes(order, starts))

    def test_starts_for_any_three_things(self):
        self.same((starts_for(LINE, [3, 0, 1]), starts_for(LINE, (0, 1, 2))), ((1, 1, 1, 2), (2, 1, 1, 1)))
        for thing in (4, -1, *NO_INTEGERS):
            self.raises(BadPart(1), starts_for, LINE, (0, thing, 1))
        self.raises(BadPart(2), starts_for, LINE, [0, 1, 0])

    def test_orders(self):
        for web in webs():
            row = all_starts_by_hand(web)
            self.same(row is None, barring_four(web) is not None)
            if row is None:
                self.raises(NoOrder(), all_starts_order, web)
            else:
                order = all_starts_order(web)
                self.same(order, Order(web, row))
                self.same(early_by_hand(order), None)
        self.same(all_starts_order(Web(0)), Order(Web(0), ()))
        self.same(all_starts_order(Web.star(4)).row, (0, 1, 2, 3))
        self.same(all_starts_order(Web(4, [(3, 0), (3, 1), (3, 2), (1, 2)])).row, (3, 0, 1, 2))
        self.raises(NoOrder(), all_starts_order, Web(4) + LINE)

    def test_sixteen_things(self):
        web = Web(16, [(x, y) for y in range(16) for x in range(y) if x == y & x])
        self.same(barring_four(web), (1, 3, 2, 6))
        self.raises(NoOrder(), all_starts_order, web)
        tree = Web.ruled(16, [((thing - 1) // 2, thing) for thing in range(1, 16)])
        self.same((all_starts_order(tree).row, barring_four(tree)), (tuple(range(16)), None))

    def test_barring_fours(self):
        for web in webs():
            rows, rings = rows_by_hand(web), rings_by_hand(web)
            expected = rows[0] if rows else rings[0] if rings else None
            self.same(barring_four(web), expected)
        self.same((barring_four(Web.ring(4)), barring_four(Web.ring(4) + LINE)), ((0, 1, 2, 3), (4, 5, 6, 7)))
        self.same(barring_four(Web(5, [(4, 1), (1, 3), (3, 2), (2, 4)])), (1, 3, 2, 4))
        self.same((barring_four(Web(0)), barring_four(Web.full(5))), (None, None))


class Pieces(Case):
    def test_all_parts(self):
        for web in webs():
            for part in subsets(range(web.many)):
                self.same(pieces(web, list(part[::-1])), pieces_by_hand(web, part))
            self.same(pieces(web), pieces_by_hand(web, range(web.many)))
            self.same(pieces(web, None), pieces(web))

    def test_edges(self):
        self.same((pieces(Web(0)), pieces(LINE, ()), pieces(Web(3))), ((), (), ((0,), (1,), (2,))))
        self.same(pieces(Web.line(16), (0, 2, 3, 15)), ((0,), (2, 3), (15,)))
        self.same(pieces(Web(5, [(0, 4), (1, 3), (3, 2)])), ((0, 4), (1, 2, 3)))
        self.raises(BadPart(1), pieces, LINE, [0, 4])
        self.raises(BadPart(1), pieces, LINE, (2, 2))


class StartRuns(Case):
    def run_by_hand(self, order, starts, thing):
        place = {one: number for number, one in enumerate(order.row)}
        least, greatest = 1, None
        for b, c, d in threes_by_hand(order.web):
            if place[d] > place[c]:
                continue
            if thing == b:
                bound = max(starts[c], starts[d])
                greatest = bound if greatest is None else min(greatest, bound)
            for one, other in ((c, d), (d, c)):
                if thing == one and starts[b] > starts[other]:
                    least = max(least, starts[b])
        return (least, greatest)

    def cases(self):
        for web in [Web.line(3), *some_webs(5, 4), *some_webs(171)]:
            for number, order in enumerate(all_orders(web)[::7]):
                for starts in start_rows(web.many, 4)[number % 5::83]:
                    yield order, starts

    def test_just_the_starts_that_will_do(self):
        for order, starts in self.cases():
            for thing in range(len(order)):
                first, last = start_run(order, list(starts), thing)
                self.same((first, last), self.run_by_hand(order, starts, thing))
                for start in range(1, 8):
                    bad = [three for three in bad_threes_by_hand(order, at(starts, thing, start)) if thing in three]
                    self.same(first <= start and (last is None or start <= last), not bad)

    def test_the_starts_that_fit(self):
        for order, starts in self.cases():
            for thing in range(len(order)):
                others = [three for three in bad_threes_by_hand(order, starts) if thing not in three]
                if not others and not bad_by_hand(order.web, order.row):
                    first, last = start_run(order, starts, thing)
                    for start in range(1, 7):
                        fits = starts_fit(order, at(starts, thing, start))
                        self.same(fits, first <= start and (last is None or start <= last))

    def test_the_start_of_the_thing_has_no_effect(self):
        for order, starts in list(self.cases())[::3]:
            for thing in range(len(order)):
                self.same({start_run(order, at(starts, thing, start), thing) for start in (1, 3, MOST)},
                          {start_run(order, starts, thing)})

    def test_edges(self):
        self.same(start_run(Order.plain(Web(1)), (5,), 0), (1, None))
        order = Order(Web.line(3), (0, 2, 1))
        self.same([start_run(order, (MOST, 5, 7), thing) for thing in range(3)], [(7, 7), (MOST, None), (MOST, MOST)])
        # No start will do: thing 0 must be early for one three and late for another.
        web = Web(5, [(0, 1), (1, 2), (0, 3), (3, 4)])
        order = Order(web, (2, 0, 4, 1, 3))
        first, last = start_run(order, (1, 1, 1, 2, 9), 0)
        self.assertGreater(first, last)
        self.same((first, last), (9, 1))

    def test_errors_in_order(self):
        for starts in ((1, 1, 1), [1, 0, 1, 1], None, (1, 1, 1, True)):
            self.raises(BadNumber("starts"), start_run, PLAIN, starts, 9)
        for thing in (4, -1, *NO_INTEGERS):
            self.raises(BadThing(thing), start_run, PLAIN, (1, 1, 1, 1), thing)


if __name__ == "__main__":
    unittest.main()
