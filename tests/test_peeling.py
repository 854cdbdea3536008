"""perfectorders/peeling.py: [115] peeling."""

import unittest

from perfectorders.kinds import keeps
from perfectorders.orders import Order
from perfectorders.peeling import is_takes_order, peel_takes, peeled
from perfectorders.rings import blocking_ring
from perfectorders.taking import Taking, takes_order
from perfectorders.webs import Web
from tests.by_hand import Case, all_orders, all_webs, clash, rows_by_hand, some_webs

LINE = Web.line(4)


def is_end(web, left, thing):
    return any(set(row) <= set(left) and thing in (row[0], row[3]) for row in rows_by_hand(web))


def is_middle(web, left, thing):
    return any(set(row) <= set(left) and thing in row[1:3] for row in rows_by_hand(web))


def peel_by_hand(web, row, last_first=False):
    """The takes of peeling, and the things left."""
    left = list(row)
    takes = []
    while left:
        front = not is_end(web, left, left[0])
        back = not is_middle(web, left, left[-1])
        if front and not (last_first and back):
            takes.append((left.pop(0), "front"))
        elif back:
            takes.append((left.pop(), "back"))
        else:
            break
    return tuple(takes), tuple(left)


def cases():
    for web in [*all_webs(4), *some_webs(13)]:
        yield from all_orders(web)[::1 if web.many < 5 else 5]
    for web in (Web.ring(6), Web.line(6), ~Web.ring(6), Web.ring(5) + Web(1)):
        yield from all_orders(web)[::31]


class Peeling(Case):
    def test_thing_by_thing(self):
        for order in cases():
            takes, left = peel_by_hand(order.web, order.row)
            self.same((peel_takes(order), is_takes_order(order)), (takes, not left))
            front = [side for _, side in takes].count("front")
            self.same(peeled(order), (front, front + len(left) - 1))
            if left:
                self.same(order.row[peeled(order)[0]:peeled(order)[1] + 1], left)

    def test_the_last_thing_first_leaves_the_same(self):
        for order in cases():
            self.same(peel_by_hand(order.web, order.row, True)[1], peel_by_hand(order.web, order.row)[1])

    def test_turned_on_the_contrary(self):
        for order in cases():
            first, last = peeled(order)
            turned = Order(~order.web, order.row[::-1])
            self.same(is_takes_order(turned), is_takes_order(order))
            if first <= last:
                size = len(order)
                self.same(peeled(turned), (size - 1 - last, size - 1 - first))

    def test_orders_of_takings(self):
        """An order is that of a taking that leaves nothing just if peeling leaves nothing."""
        for web in [*all_webs(4, 2), *some_webs(113)]:
            found = set()
            waiting = [(tuple(range(web.many)), (), ())]
            while waiting:
                left, front, back = waiting.pop()
                if not left:
                    found.add(front + back)
                for x in left:
                    rest = tuple(y for y in left if y != x)
                    if not is_end(web, left, x):
                        waiting.append((rest, front + (x,), back))
                    if not is_middle(web, left, x):
                        waiting.append((rest, front, (x,) + back))
            self.assertEqual({order.row for order in all_orders(web) if is_takes_order(order)}, found)

    def test_take_all_is_peeled_to_nothing(self):
        for web in some_webs(7):
            taking = Taking(web)
            if not taking.take_all():
                self.same(is_takes_order(takes_order(taking)), True)

    def test_letters(self):
        for order in cases():
            if is_takes_order(order):
                self.same(keeps(order, "FD"), True)
            ahead = [[y for y in order.row[:place] if clash(order.web, x, y)] for place, x in enumerate(order.row)]
            if all(clash(order.web, x, y) for things in ahead for x in things for y in things if x != y):
                self.same(is_takes_order(order), True)
            if blocking_ring(order.web) is not None:
                self.same((is_takes_order(order), keeps(order, "FD")), (False, False))

    def test_example(self):
        order = Order.plain(LINE)
        self.same((peeled(order), peel_takes(order)), ((3, 2), ((3, "back"), (0, "front"), (1, "front"), (2, "front"))))

    def test_edges(self):
        self.same((peeled(Order.plain(Web(0))), peel_takes(Order.plain(Web(0))), is_takes_order(Order.plain(Web(0)))),
                  ((0, -1), (), True))
        self.same((peeled(Order.plain(Web(1))), peel_takes(Order.plain(Web(1)))), ((1, 0), ((0, "front"),)))
        self.same(peeled(Order(Web.ring(5), (4, 2, 0, 1, 3))), (0, 4))
        self.same((peeled(Order(LINE, (0, 3, 1, 2))), peel_takes(Order(LINE, (0, 3, 1, 2)))), ((0, 3), ()))
        self.same(peeled(Order.plain(Web.full(16))), (16, 15))


if __name__ == "__main__":
    unittest.main()
