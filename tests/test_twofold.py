"""perfectorders/twofold.py: [84] twofold orders."""

import unittest

from perfectorders.books import Book, room_count
from perfectorders.climbs import top_knot
from perfectorders.errors import BadNeeds, BadPart, NotTwofold
from perfectorders.kinds import keeps
from perfectorders.orders import Order
from perfectorders.threekinds import is_gathered
from perfectorders.twofold import Fourfold, check_twofold, first_knot, is_twofold, shared_thing
from perfectorders.webs import Web
from tests import by_hand
from tests.by_hand import (Case, all_needs, all_orders, all_webs, clash, count_by_hand, first_lot_by_hand, full_sets,
                           heaviest_lot_weight, heaviest_weight, rows_by_hand, some_webs, spans_by_hand, subsets,
                           weight_of)

LINE = Web.line(4)
WRONG = Order(LINE, (0, 3, 1, 2))
MOST = 10 ** 12


def cases():
    for web in all_webs(4):
        yield from all_orders(web)[::5 if web.many == 4 and not rows_by_hand(web) else 1]
    for web in some_webs(67):
        yield from all_orders(web)[::13]


def against(order):
    """The rows that begin with an end and close with a middle."""
    place = order.row.index
    return [(a, b, c, d) for a, b, c, d in rows_by_hand(order.web)
            if min((a, b, c, d), key=place) in (a, d) and max((a, b, c, d), key=place) in (b, c)]


def first_knot_by_hand(order, part):
    knot = []
    for thing in order.row[::-1]:
        if thing in part and all(clash(order.web, thing, other) for other in knot):
            knot.append(thing)
    return tuple(sorted(knot))


class Twofold(Case):
    def test_rows(self):
        for order in cases():
            rows = against(order)
            self.same(is_twofold(order), not rows)
            self.same(keeps(order, "FD"), not rows)
            if rows:
                self.raises(NotTwofold(rows[0]), check_twofold, order)
            else:
                self.assertIs(check_twofold(order), order)

    def test_first_knots_and_shared_things(self):
        for order in cases():
            web = order.web
            for part in subsets(range(web.many)):
                knot = first_knot_by_hand(order, part)
                lot = first_lot_by_hand(web, order.row, part)
                self.same(first_knot(order, list(part[::-1])), knot)
                shared = set(knot) & set(lot)
                self.same(shared_thing(order, list(part[::-1])), min(shared) if shared else None)
            self.same((first_knot(order), shared_thing(order)),
                      (first_knot(order, range(web.many)), shared_thing(order, tuple(range(web.many)))))

    def test_first_lots_and_knots_tell_it(self):
        for order in list(cases())[::3]:
            web = order.web
            good = True
            for part in subsets(range(web.many))[1:]:
                lot = first_lot_by_hand(web, order.row, part)
                knot = first_knot_by_hand(order, part)
                meets = all(set(lot) & set(full) for full in full_sets(web, part, by_hand.is_knot))
                meets = meets and all(set(knot) & set(full) for full in full_sets(web, part, by_hand.is_lot))
                good = good and meets
                if is_twofold(order):
                    self.same(len(set(knot) & set(lot)), 1)
            self.same(is_twofold(order), good)

    def test_orders_that_are_twofold(self):
        for order in cases():
            behind_are_lots = all(
                by_hand.is_lot(order.web, [y for y in order.row[place + 1:] if not clash(order.web, x, y)])
                for place, x in enumerate(order.row))
            if is_gathered(order) or behind_are_lots:
                self.assertTrue(is_twofold(order))

    def test_edges(self):
        none = Order.plain(Web(0))
        self.same((is_twofold(none), first_knot(none), shared_thing(none)), (True, (), None))
        one = Order.plain(Web(1))
        self.same((is_twofold(one), first_knot(one), shared_thing(one), first_knot(one, ()), shared_thing(one, ())),
                  (True, (0,), 0, (), None))
        # In an order that is not twofold there may be no shared thing.
        self.same((first_knot(WRONG), shared_thing(WRONG)), ((1, 2), None))
        self.raises(NotTwofold((0, 1, 2, 3)), check_twofold, WRONG)
        # This row is bad in D alone.
        order = Order(LINE, (0, 2, 3, 1))
        self.raises(NotTwofold((0, 1, 2, 3)), check_twofold, order)

    def test_errors(self):
        for call in (first_knot, shared_thing):
            self.raises(BadPart(1), call, WRONG, [0, 4])
            self.raises(BadPart(1), call, WRONG, (2, 2))
            self.raises(BadPart(0), call, WRONG, (True,))


class FourfoldCase(Case):
    def test_what_it_tells(self):
        for order in cases():
            web, many = order.web, len(order)
            if against(order):
                continue
            for needs in all_needs(many, 2)[::11]:
                four = Fourfold(order, list(needs))
                contrary = ~web
                spans = spans_by_hand(contrary, order.row[::-1], needs)
                self.same((four.order, four.needs), (order, needs))
                self.same((four.rooms, four.knots), (heaviest_weight(web, needs), heaviest_lot_weight(web, needs)))
                self.same(four.rooms, count_by_hand(web, order.row, needs))
                self.same(four.cover_spans, spans)
                self.same(four.knot, top_knot(Book(order, needs)))
                self.same(four.lot_told, top_knot(Book(Order(contrary, order.row[::-1]), needs)))
                self.assertTrue(by_hand.is_knot(web, four.knot) and by_hand.is_lot(web, four.lot_told))
                self.same((weight_of(needs, four.knot), weight_of(needs, four.lot_told)), (four.rooms, four.knots))
                for thing in range(many):
                    self.same(sum(count for count, knot in four.cover_spans if thing in knot), needs[thing])
                self.same(sum(count for count, knot in four.cover_spans), four.knots)

    def test_twofold_by_all_needs(self):
        for order in list(cases())[::5]:
            web = order.web
            turned = Order(~web, order.row[::-1])
            good = all(room_count(order, needs) == heaviest_weight(web, needs)
                       and room_count(turned, needs) == heaviest_lot_weight(web, needs)
                       for needs in all_needs(web.many, 1))
            self.same(is_twofold(order), good)

    def test_the_document_s_example(self):
        four = Fourfold(Order.plain(LINE), (2, 1, 3, 1))
        self.same((four.rooms, four.knot, four.knots, four.cover_spans, four.lot_told),
                  (4, (1, 2), 5, ((1, (2, 3)), (1, (1, 2)), (1, (2,)), (2, (0,))), (0, 2)))

    def test_edges(self):
        four = Fourfold(Order.plain(Web(0)))
        self.same((four.rooms, four.knot, four.knots, four.cover_spans, four.lot_told, four.needs),
                  (0, (), 0, (), (), ()))
        four = Fourfold(Order.plain(LINE), (0, 0, 0, 0))
        self.same((four.rooms, four.knot, four.knots, four.cover_spans, four.lot_told), (0, (), 0, (), ()))
        four = Fourfold(Order.plain(LINE), (2 * MOST, MOST, 3 * MOST, MOST))
        self.same((four.rooms, four.knots, four.lot_told), (4 * MOST, 5 * MOST, (0, 2)))
        self.same(Fourfold(Order.plain(Web(1))).needs, (1,))

    def test_errors_in_order(self):
        self.raises(BadNeeds(1), Fourfold, WRONG, (1, -1, 1, 1))
        self.raises(BadNeeds(3), Fourfold, WRONG, (1, 1, 1))
        self.raises(NotTwofold((0, 1, 2, 3)), Fourfold, WRONG)
        self.raises(NotTwofold((0, 1, 2, 3)), Fourfold, WRONG, (0, 0, 0, 0))

    def test_does_not_keep_the_list(self):
        needs = [1, 2, 1, 1]
        four = Fourfold(Order.plain(LINE), needs)
        needs[0] = 9
        self.same(four.needs, (1, 2, 1, 1))


if __name__ == "__main__":
    unittest.main()
