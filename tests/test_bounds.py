"""perfectorders/bounds.py and products.py: [25] two bounds, [28] joint rooms."""

import unittest
from itertools import permutations, product

from perfectorders.bounds import heaviest_way, most_ahead
from perfectorders.errors import BadNeeds, BadNumber
from perfectorders.orders import Order
from perfectorders.products import joint_count, joint_room
from perfectorders.webs import Web
from tests.by_hand import Case, NO_INTEGERS, all_needs, all_orders, all_webs, clash, some_webs, weight_of


def led_ways(order, needs):
    """All led ways of needy things."""
    needy = [thing for thing in range(len(order)) if needs[thing] > 0]
    found = []
    for size in range(len(needy) + 1):
        for way in permutations(needy, size):
            if all(order.ahead(x, y) and clash(order.web, x, y) for x, y in zip(way, way[1:])):
                found.append(way)
    return found


def cases():
    for web in all_webs(3):
        for order in all_orders(web):
            for needs in all_needs(web.many):
                yield order, needs
    for web in some_webs(13, 4):
        for order in all_orders(web)[::5]:
            for needs in all_needs(4)[::7]:
                yield order, needs


class Bounds(Case):
    def test_heaviest_way(self):
        for order, needs in cases():
            ways = led_ways(order, needs)
            most = max(weight_of(needs, way) for way in ways)
            least = min(way for way in ways if weight_of(needs, way) == most)
            self.same(heaviest_way(order, list(needs)), (most, least))

    def test_most_ahead(self):
        for order, needs in cases():
            sums = [(needs[thing] + sum(needs[other] for other in range(len(order))
                                        if clash(order.web, other, thing) and order.ahead(other, thing)), thing)
                    for thing in range(len(order)) if needs[thing] > 0]
            most = max([total for total, thing in sums], default=0)
            least = min([thing for total, thing in sums if total == most], default=None)
            self.same(most_ahead(order, list(needs)), (most, least))

    def test_no_thing_needy(self):
        for order in (Order(Web(0), ()), Order.plain(Web(1)), Order.plain(Web.line(3))):
            none = (0,) * len(order)
            self.same((heaviest_way(order, none), most_ahead(order, none)), ((0, ()), (0, None)))
        self.same((heaviest_way(Order(Web(0), ())), most_ahead(Order(Web(0), ()))), ((0, ()), (0, None)))

    def test_things_without_need(self):
        order = Order.plain(Web.line(3))
        # No led way passes through thing 1, and it counts for nothing itself.
        self.same(heaviest_way(order, (2, 0, 2)), (2, (0,)))
        self.same(most_ahead(order, (5, 0, 2)), (5, 0))

    def test_needs_of_none_and_great_needs(self):
        order = Order.plain(Web.line(4))
        self.same((heaviest_way(order), most_ahead(order, None)), ((4, (0, 1, 2, 3)), (2, 1)))
        most = 10 ** 12
        self.same(heaviest_way(order, (most,) * 4), (4 * most, (0, 1, 2, 3)))
        self.same(most_ahead(order, (most, 1, most, 1)), (most + 1, 1))

    def test_bad_needs(self):
        for call in (heaviest_way, most_ahead):
            self.raises(BadNeeds(1), call, Order.plain(Web.line(3)), (1, -1, True))
            self.raises(BadNeeds(2), call, Order.plain(Web.line(3)), (1, 1))
            self.raises(BadNeeds(3), call, Order.plain(Web.line(3)), (1, 1, 1, 1))


class Joint(Case):
    def test_joint_room(self):
        for room, other in product(range(1, 20), repeat=2):
            self.same(joint_room(room, other), 1 + ((room - 1) ^ (other - 1)))
        self.same(joint_room(10 ** 14, 10 ** 14), 1)
        self.same((joint_room(3, 2), joint_room(1, 7), joint_room(2 ** 40 + 1, 1)), (4, 7, 2 ** 40 + 1))

    def test_joint_count(self):
        for many, other in product(range(36), repeat=2):
            rooms = [1 + ((room - 1) ^ (second - 1)) for room in range(1, many + 1) for second in range(1, other + 1)]
            self.same(joint_count(many, other), max(rooms, default=0))

    def test_great_numbers(self):
        self.same(joint_count(10 ** 14, 0), 0)
        self.same(joint_count(0, 10 ** 14), 0)
        self.same(joint_count(10 ** 14, 1), 10 ** 14)
        self.same(joint_count(10 ** 14, 10 ** 14), 2 ** 47)
        self.same(joint_count(2 ** 40, 2), 2 ** 40)
        self.same(joint_count(2 ** 40 + 1, 2), 2 ** 40 + 2)

    def test_errors_in_order(self):
        for number in (0, -1, *NO_INTEGERS):
            self.raises(BadNumber("room"), joint_room, number, None)
            self.raises(BadNumber("other"), joint_room, 1, number)
        for number in (-1, *NO_INTEGERS):
            self.raises(BadNumber("many"), joint_count, number, None)
            self.raises(BadNumber("other"), joint_count, 0, number)


if __name__ == "__main__":
    unittest.main()
