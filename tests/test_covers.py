"""perfectorders/covers.py: [43] covers."""

import unittest

from perfectorders.covers import cover, cover_lot, cover_size, meeting_knot
from perfectorders.errors import BadNeeds, NotRight
from perfectorders.orders import Order
from perfectorders.webs import Web
from tests import by_hand
from tests.by_hand import (Case, all_needs, all_webs, bad_by_hand, full_sets, heaviest_lot_weight, needy,
                           right_orders_of, sets_of, some_webs, weight_of, wrong_orders_of)

WRONG = Order(Web.line(4), (0, 3, 1, 2))
MOST = 10 ** 12


def right_cases():
    for web in [*all_webs(3), *some_webs(5, 4), *some_webs(113)]:
        for order in right_orders_of(web)[:1]:
            rows = all_needs(web.many, 3)
            for needs in rows[:: 1 + len(rows) // 60]:
                yield order, needs


def heaviest_lots_by_hand(web, needs):
    lots = sets_of(web, needy(needs), by_hand.is_lot)
    most = max(weight_of(needs, lot) for lot in lots)
    return [lot for lot in lots if weight_of(needs, lot) == most]


def meeting_by_hand(web, needs):
    lots = heaviest_lots_by_hand(web, needs)
    return min(knot for knot in full_sets(web, needy(needs), by_hand.is_knot)
               if all(set(knot) & set(lot) for lot in lots))


def cover_by_hand(web, needs):
    left = list(needs)
    pairs = []
    while any(left):
        knot = meeting_by_hand(web, left)
        without = [0 if thing in knot else need for thing, need in enumerate(left)]
        count = min(heaviest_lot_weight(web, left) - heaviest_lot_weight(web, without),
                    min(left[thing] for thing in knot))
        pairs.append((count, knot))
        for thing in knot:
            left[thing] -= count
    return tuple(pairs)


class Covers(Case):
    def test_as_the_document_works_them_out(self):
        for order, needs in right_cases():
            self.same(cover(order, list(needs)), cover_by_hand(order.web, needs))

    def test_what_a_cover_is(self):
        for order, needs in right_cases():
            pairs = cover(order, needs)
            for thing in range(len(order)):
                self.same(sum(count for count, knot in pairs if thing in knot), needs[thing])
            self.same(sum(count for count, knot in pairs), heaviest_lot_weight(order.web, needs))
            self.same(len({knot for count, knot in pairs}), len(pairs))
            for count, knot in pairs:
                self.assertTrue(count >= 1 and by_hand.is_knot(order.web, knot))
                for lot in heaviest_lots_by_hand(order.web, needs):
                    self.same(len(set(lot) & set(knot)), 1)

    def test_the_document_s_example(self):
        order = Order.plain(Web.line(4))
        self.same((cover(order, (2, 1, 3, 1)), cover_lot(Web.line(4), (2, 1, 3, 1))),
                  (((1, (0, 1)), (1, (0,)), (1, (2, 3)), (2, (2,))), (0, 2)))

    def test_any_size(self):
        for order, needs in list(right_cases())[::11]:
            great = tuple(need * (MOST // 3) for need in needs)
            self.same(cover(order, great), tuple((count * (MOST // 3), knot) for count, knot in cover(order, needs)))

    def test_sixteen_things(self):
        web = Web.ruled(16, [(x, y) for x in range(16) for y in range(x + 1, 16) if (y + 1) % (x + 1) == 0])
        needs = tuple(MOST - 7 ** thing % 1000 for thing in range(16))
        order = right_order_of_rules(web)
        pairs = cover(order, needs)
        self.same(tuple(sum(count for count, knot in pairs if x in knot) for x in range(16)), needs)
        self.same(sum(count for count, knot in pairs), cover_size(order, needs))

    def test_edges(self):
        none = Order.plain(Web(0))
        self.same((cover(none), cover_size(none), cover_lot(Web(0)), meeting_knot(none)), ((), 0, (), ()))
        order = Order.plain(Web.line(4))
        zero = (0,) * 4
        self.same((cover(order, zero), cover_size(order, zero), cover_lot(Web.line(4), zero), meeting_knot(order, zero)),
                  ((), 0, (), ()))
        one = Order.plain(Web(1))
        self.same((cover(one, (7,)), cover_size(one, [7]), cover_lot(Web(1), (7,)), meeting_knot(one)),
                  (((7, (0,)),), 7, (0,), (0,)))
        self.same(cover(order), cover(order, (1, 1, 1, 1)))
        self.same(cover(order), ((1, (0, 1)), (1, (2, 3))))


def right_order_of_rules(web):
    """Things that others are over come behind these: no row of four of a ruled web is bad then."""
    return Order.plain(web)


class Lots(Case):
    def test_sizes_and_lots(self):
        for order, needs in right_cases():
            self.same(cover_size(order, list(needs)), heaviest_lot_weight(order.web, needs))
            self.same(cover_lot(order.web, list(needs)), min(heaviest_lots_by_hand(order.web, needs)))
            expected = meeting_by_hand(order.web, needs) if any(needs) else ()
            self.same(meeting_knot(order, list(needs)), expected)

    def test_lots_of_webs_without_right_orders(self):
        self.same(cover_lot(Web.ring(5)), (0, 2))
        self.same(cover_lot(Web.ring(5), (0, 1, 0, 1, 5)), (1, 4))
        self.same(cover_lot(Web.ring(5), None), (0, 2))


class Errors(Case):
    def test_needs_come_first(self):
        for call in (cover, cover_size, meeting_knot):
            self.raises(BadNeeds(1), call, WRONG, (1, -1, 1, 1))
            self.raises(BadNeeds(3), call, WRONG, [1, 1, 1])
            self.raises(BadNeeds(4), call, WRONG, [1, 1, 1, 1, 1])
        self.raises(BadNeeds(2), cover_lot, Web.line(4), (1, 1, True, 1))
        self.raises(BadNeeds(0), cover_lot, Web.line(4), ())

    def test_not_right(self):
        for web in [Web.line(4), *some_webs(211)]:
            for order in wrong_orders_of(web, 19):
                bad = bad_by_hand(web, order.row)[0]
                for needs in (None, (0,) * len(order)):
                    for call in (cover, cover_size, meeting_knot):
                        self.raises(NotRight(bad), call, order, needs)


if __name__ == "__main__":
    unittest.main()
