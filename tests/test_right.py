"""perfectorders/right.py: [31] right orders, and the needs of [32] and [36]."""

import unittest

from perfectorders.errors import NotRight
from perfectorders.orders import Order
from perfectorders.right import (bad_rows, check_right, counter_needs, counter_pair, counter_part, first_bad,
                                 is_right)
from perfectorders.webs import Web
from tests.by_hand import Case, all_orders, all_webs, bad_by_hand, ones_on, some_webs


def cases():
    for web in [*all_webs(4), *some_webs(97), Web.line(6), Web.ring(6)]:
        for order in all_orders(web)[::7 if web.many > 4 else 1]:
            yield order


class BadRows(Case):
    def test_all_orders(self):
        for order in cases():
            bad = bad_by_hand(order.web, order.row)
            self.same(bad_rows(order), bad)
            self.same(first_bad(order), bad[0] if bad else None)
            self.same(is_right(order), not bad)

    def test_the_end_makes_no_difference(self):
        self.same(bad_rows(Order(Web.line(4), (0, 3, 1, 2))), ((0, 1, 2, 3),))
        self.same(bad_rows(Order(Web.line(4), (3, 0, 2, 1))), ((0, 1, 2, 3),))
        self.same(bad_rows(Order(Web.line(4), (0, 1, 2, 3))), ())
        self.same(bad_rows(Order(Web.line(4), (1, 2, 0, 3))), ())

    def test_no_thing_and_one_thing(self):
        for order in (Order(Web(0), ()), Order.plain(Web(1))):
            self.same((bad_rows(order), first_bad(order), is_right(order)), ((), None, True))
            self.same((counter_part(order), counter_needs(order), counter_pair(order)), (None, None, None))

    def test_check_right(self):
        for order in cases():
            bad = bad_by_hand(order.web, order.row)
            if bad:
                self.raises(NotRight(bad[0]), check_right, order)
            else:
                self.assertIs(check_right(order), order)

    def test_the_document_s_example(self):
        order = Order(Web(5, [(0, 1), (1, 2), (2, 3), (1, 4)]), (0, 3, 1, 2, 4))
        self.same((first_bad(order), counter_needs(order), counter_pair(order)),
                  ((0, 1, 2, 3), (10, 10, 10, 10, 1), ((1, 0, 1, 0, 0), (0, 1, 0, 1, 0))))


class Counters(Case):
    def test_what_shows_it(self):
        for order in cases():
            bad = bad_by_hand(order.web, order.row)
            many = order.web.many
            if bad:
                a, b, c, d = bad[0]
                self.same(counter_part(order), tuple(sorted(bad[0])))
                self.same(counter_needs(order), tuple(2 * many if x in bad[0] else 1 for x in range(many)))
                self.same(counter_pair(order), (ones_on(many, (a, c)), ones_on(many, (b, d))))
            else:
                self.same((counter_part(order), counter_needs(order), counter_pair(order)), (None, None, None))


if __name__ == "__main__":
    unittest.main()
