"""perfectorders/orders.py: [16] orders, and orders made of orders."""

import unittest
from itertools import permutations, product

from perfectorders.errors import BadNumber, BadOrder, BadPart, BadThing
from perfectorders.joins import beside, joined, put_in
from perfectorders.joins import product as product_web
from perfectorders.orders import Order, joined_order, order_by, product_order, put_in_order, same_lead
from perfectorders.settled import rooms_row
from perfectorders.webs import Web
from tests.by_hand import Case, NO_INTEGERS, all_orders, all_webs, clash, part_web, some_webs, subsets


class Making(Case):
    def test_attributes(self):
        web = Web.line(3)
        order = Order(web, [2, 0, 1])
        self.same(order.web, web)
        self.same(order.row, (2, 0, 1))
        self.same(Order.LETTERS, "FTCD")
        self.same(order.LETTERS, "FTCD")
        self.same(Order(Web(0), []).row, ())
        self.same(Order(Web(1), (0,)).row, (0,))

    def test_bad_rows(self):
        web = Web.line(3)
        for thing in (3, -1, *NO_INTEGERS):
            self.raises(BadOrder(1), Order, web, [2, thing, 2])
            self.raises(BadOrder(3), Order, web, (2, 0, 1, thing))
        self.raises(BadOrder(1), Order, web, [2, 2, 9])
        self.raises(BadOrder(2), Order, web, [2, 0, 2])
        self.raises(BadOrder(3), Order, web, [2, 0, 1, 0])
        self.raises(BadOrder(2), Order, web, [2, 0])
        self.raises(BadOrder(0), Order, web, ())
        self.raises(BadOrder(0), Order, Web(0), (0,))

    def test_does_not_keep_the_list(self):
        row = [2, 0, 1]
        order = Order(Web.line(3), row)
        row[0] = 1
        self.same(order.row, (2, 0, 1))

    def test_plain(self):
        for web in (Web(0), Web(1), Web.ring(5)):
            self.same(Order.plain(web), Order(web, range(web.many)))


class Asking(Case):
    def test_ahead_and_lead(self):
        for web in [*all_webs(3), *some_webs(301, 4)]:
            for order in all_orders(web):
                place = {thing: at for at, thing in enumerate(order.row)}
                for x, y in product(range(web.many), repeat=2):
                    self.same(order.ahead(x, y), place[x] < place[y])
                for x in range(web.many):
                    told = tuple(y for y in order.row if place[y] < place[x] and clash(web, x, y))
                    self.same(order.ahead_of(x), told)
                lead = sorted((x, y) for x, y in permutations(range(web.many), 2)
                              if clash(web, x, y) and place[x] < place[y])
                self.same(order.lead(), tuple(lead))

    def test_ahead_of_is_in_their_order(self):
        self.same(Order(Web.full(4), (3, 0, 2, 1)).ahead_of(1), (3, 0, 2))

    def test_bad_things(self):
        order = Order.plain(Web.line(3))
        for thing in (3, -1, *NO_INTEGERS):
            self.raises(BadThing(thing), order.ahead, thing, 9)
            self.raises(BadThing(thing), order.ahead, 0, thing)
            self.raises(BadThing(thing), order.ahead_of, thing)
            self.raises(BadThing(thing), order.moved, thing, 9)

    def test_signs(self):
        order = Order(Web.line(4), (2, 0, 3, 1))
        self.same(~order, Order(Web.line(4), (1, 3, 0, 2)))
        self.same(len(order), 4)
        self.same(len(Order(Web(0), ())), 0)
        self.same([order[place] for place in range(4)], [2, 0, 3, 1])
        self.same(tuple(order), (2, 0, 3, 1))
        for place in (4, -1, *NO_INTEGERS):
            self.raises(BadNumber("place"), lambda: order[place])
        self.raises(BadNumber("place"), lambda: Order(Web(0), ())[0])

    def test_in(self):
        order = Order(Web.line(3), (2, 0, 1))
        for thing in range(3):
            self.same(thing in order, True)
        for value in (3, -1, *NO_INTEGERS, (0, 1), order):
            self.same(value in order, False)

    def test_equality(self):
        order = Order(Web.line(3), (2, 0, 1))
        self.same(order == Order(Web(3, [(2, 1), (1, 0)]), [2, 0, 1]), True)
        self.same(order != Order(Web(3, [(2, 1), (1, 0)]), [2, 0, 1]), False)
        self.same(order == Order(Web.full(3), (2, 0, 1)), False)
        self.same(order == Order(Web.line(3), (2, 1, 0)), False)
        for value in ((2, 0, 1), None, Web.line(3), 3):
            self.same(order == value, False)
            self.same(order != value, True)


class Changing(Case):
    def test_part(self):
        for web in [*all_webs(3), *some_webs(11, 4)]:
            for order in all_orders(web):
                for things in subsets(range(web.many)):
                    row = [things.index(thing) for thing in order.row if thing in things]
                    self.same(order.part(list(things[::-1])), Order(part_web(web, things), row))
        self.raises(BadPart(1), Order.plain(Web.line(3)).part, [0, 3])
        self.raises(BadPart(1), Order.plain(Web.line(3)).part, (0, 0, True))

    def test_on(self):
        order = Order(Web.line(3), (2, 0, 1))
        self.same(order.on(Web.full(3)), Order(Web.full(3), (2, 0, 1)))
        for many in (0, 2, 4):
            self.raises(BadNumber("web"), order.on, Web(many))

    def test_moved(self):
        for row in permutations(range(4)):
            order = Order(Web.line(4), row)
            for x, place in product(range(4), repeat=2):
                moved = order.moved(x, place)
                self.same(moved.row[place], x)
                self.same([thing for thing in moved.row if thing != x], [thing for thing in row if thing != x])
                self.same(moved.web, order.web)
            self.same(order.row, row)
        order = Order.plain(Web.line(3))
        for place in (3, -1, *NO_INTEGERS):
            self.raises(BadNumber("place"), order.moved, 0, place)


class Made(Case):
    def test_order_by(self):
        web = Web.line(4)
        for numbers in product((-1, 0, 10 ** 12), repeat=4):
            row = sorted(range(4), key=lambda thing: (numbers[thing], thing))
            self.same(order_by(web, list(numbers)), Order(web, row))
        self.same(order_by(Web(0), ()), Order(Web(0), ()))

    def test_order_by_errors(self):
        for numbers in ((), (1, 2), (1, 2, 3, 4), (1, 2, True), (None, 1, 2), ("1", 2, 3), (1.0, 2, 3)):
            self.raises(BadNumber("numbers"), order_by, Web.line(3), numbers)

    def test_same_lead(self):
        orders = [order for web in all_webs(3, 3) for order in all_orders(web)]
        for order, other in product(orders, repeat=2):
            lead = {(x, y) for x, y in permutations(range(3), 2) if clash(order.web, x, y) and order.ahead(x, y)}
            lead_too = {(x, y) for x, y in permutations(range(3), 2) if clash(other.web, x, y) and other.ahead(x, y)}
            self.same(same_lead(order, other), order.web == other.web and lead == lead_too)
        self.same(same_lead(Order.plain(Web(2)), Order.plain(Web(3))), False)

    def test_joined_order(self):
        orders = [Order(Web.line(2), (1, 0)), Order(Web(0), ()), Order(Web.full(3), (2, 0, 1))]
        webs = [order.web for order in orders]
        row = (4, 1, 2, 0, 3)
        for mixing in ([2, 0, 2, 0, 2], (2, 0, 2, 0, 2)):
            self.same(joined_order(orders, mixing), Order(beside(*webs), row))
            self.same(joined_order(tuple(orders), mixing, False), Order(beside(*webs), row))
            self.same(joined_order(orders, mixing, True), Order(joined(*webs), row))
            self.same(joined_order(orders, mixing, clashing=True), Order(joined(*webs), row))
        self.same(joined_order([orders[0]], (0, 0)), orders[0])
        self.same(joined_order([orders[1]], ()), orders[1])

    def test_joined_order_errors(self):
        orders = [Order.plain(Web(2)), Order.plain(Web(1)), Order.plain(Web(0))]
        self.raises(BadNumber("orders"), joined_order, [], [7])
        self.raises(BadNumber("orders"), joined_order, (), ())
        for number in (3, -1, *NO_INTEGERS):
            self.raises(BadOrder(1), joined_order, orders, [0, number, number])
        self.raises(BadOrder(2), joined_order, orders, [1, 0, 1, 0])
        self.raises(BadOrder(0), joined_order, orders, (2, 0, 0, 1))
        self.raises(BadOrder(3), joined_order, orders, [0, 0, 1, 0, 9])
        self.raises(BadOrder(2), joined_order, orders, [0, 1])
        self.raises(BadOrder(0), joined_order, orders, ())

    def test_put_in_order(self):
        outer = Order(Web.line(3), (1, 2, 0))
        orders = [Order(Web.line(2), (1, 0)), Order(Web(2), (0, 1)), Order(Web(1), (0,))]
        got = put_in_order(outer, orders)
        self.same(got, Order(put_in(outer.web, [order.web for order in orders]), (2, 3, 4, 1, 0)))
        self.same(put_in_order(outer, tuple(orders)), got)
        empty = [Order(Web(0), ())] * 3
        self.same(put_in_order(outer, empty), Order(Web(0), ()))
        self.same(put_in_order(Order(Web(0), ()), []), Order(Web(0), ()))

    def test_put_in_order_errors(self):
        outer = Order.plain(Web.line(2))
        for many in (0, 1, 3):
            self.raises(BadNumber("orders"), put_in_order, outer, [Order.plain(Web(1))] * many)

    def test_product_order(self):
        for web, other in product((Web(0), Web(1), Web.line(3), Web.full(2)), repeat=2):
            for order, second in product(all_orders(web), all_orders(other)):
                row = [x * other.many + y for x in order.row for y in second.row]
                self.same(product_order(order, second), Order(product_web(web, other), row))

    def test_the_document_s_example(self):
        self.same(rooms_row(product_order(Order.plain(Web.line(2)), Order.plain(Web.full(3)))), (1, 2, 3, 2, 1, 4))


if __name__ == "__main__":
    unittest.main()
