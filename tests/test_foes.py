"""perfectorders/foes.py: [61] a foe."""

import unittest
from functools import lru_cache

from perfectorders.errors import BadNeeds, BadPart, NoneSuch, NotLot
from perfectorders.foes import FoeBook
from perfectorders.orders import Order
from perfectorders.webs import Web
from tests import by_hand
from tests.by_hand import (Case, NO_INTEGERS, all_needs, all_orders, all_webs, bad_by_hand, clash, first_lot_by_hand,
                           heaviest_weight, needy, ones_on, pairs_of, right_orders_of, sets_of, some_webs,
                           spans_by_hand, subsets, weight_of, wrong_orders_of)

WRONG = Order(Web.line(4), (0, 3, 1, 2))
MOST = 10 ** 12


class Model:
    """The foe's deeds one by one, from the document's words."""

    def __init__(self, order, needs):
        self.order, self.left = order, list(needs)
        self.lots, self.own, self.will, self.met = [], 0, 0, 0

    def fill(self, lot):
        self.lots.append(lot)
        for thing in lot:
            self.left[thing] -= 1

    def come(self):
        lot = first_lot_by_hand(self.order.web, self.order.row, needy(self.left))
        self.fill(lot)
        self.own += 1
        return lot

    def choose(self, lot):
        web = self.order.web
        knots = sets_of(web, range(web.many), by_hand.is_knot)
        most = max(weight_of(self.left, knot) for knot in knots)
        meets_all = all(set(knot) & set(lot) for knot in knots if weight_of(self.left, knot) == most)
        self.met += any(self.left) and meets_all
        self.will += 1
        self.fill(lot)

    def spans(self):
        spans = []
        for lot in self.lots:
            if spans and spans[-1][1] == lot:
                spans[-1] = (spans[-1][0] + 1, lot)
            else:
                spans.append((1, lot))
        return tuple(spans)


def told(foe):
    return (foe.now_left, foe.heavy, foe.own_many, foe.will_many, foe.met_many, foe.spans_so_far())


def told_by(model):
    return (tuple(model.left), heaviest_weight(model.order.web, model.left), model.own, model.will, model.met,
            model.spans())


def lots_left(order, left):
    return sets_of(order.web, needy(left), by_hand.is_lot)


@lru_cache(maxsize=None)
def own_numbers(many, clashes, row, left, times):
    """The numbers of rooms as they come, over all ways to fill `times` rooms at will on the way."""
    order = Order(Web(many, clashes), row)
    found = set()
    if times == 0 and not any(left):
        return frozenset([0])
    if any(left):
        lot = first_lot_by_hand(order.web, row, needy(left))
        after = tuple(need - (thing in lot) for thing, need in enumerate(left))
        found |= {1 + more for more in own_numbers(many, clashes, row, after, times)}
    if times:
        for lot in lots_left(order, left):
            after = tuple(need - (thing in lot) for thing, need in enumerate(left))
            found |= own_numbers(many, clashes, row, after, times - 1)
    return frozenset(found)


class FoeBooks(Case):
    def test_deeds_one_by_one(self):
        for place, web in enumerate([*all_webs(3), *some_webs(5, 4), *some_webs(211)]):
            for order in all_orders(web)[::7]:
                needs = tuple((thing * 5 + place) % 4 for thing in range(web.many))
                for pattern in range(4):
                    self.play(order, needs, pattern)

    def play(self, order, needs, pattern):
        foe, model = FoeBook(order, list(needs)), Model(order, needs)
        self.same((foe.order, foe.needs), (order, needs))
        for step in range(12):
            self.same(told(foe), told_by(model))
            if (step + pattern) % 3 == 0 and any(model.left):
                self.same(foe.own(), model.come())
            else:
                lots = lots_left(order, model.left)
                lot = lots[(step * 3 + pattern * 5) % len(lots)]
                self.same(foe.will(list(lot[::-1])), lot)
                model.choose(lot)
        before = model.own
        while any(model.left):
            model.come()
        self.same(foe.finish(), model.own - before)
        self.same(told(foe), told_by(model))
        self.raises(NoneSuch("left"), foe.own)
        self.same((foe.finish(), foe.needs), (0, needs))

    def test_met_rooms_lower_the_heaviest_weight(self):
        for place, web in enumerate([*some_webs(3, 4), *some_webs(151)]):
            needs = tuple(1 + (thing * 3 + place) % 3 for thing in range(web.many))
            for lot in sets_of(web, range(web.many), by_hand.is_lot):
                foe = FoeBook(Order.plain(web), needs)
                before = foe.heavy
                foe.will(lot)
                self.same(before - foe.heavy, foe.met_many)

    def test_no_foe_is_the_book(self):
        for web in [*all_webs(3), *some_webs(211)]:
            for order in all_orders(web)[::9]:
                for needs in all_needs(web.many, 2)[::7]:
                    foe = FoeBook(order, needs)
                    spans = spans_by_hand(web, order.row, needs)
                    self.same((foe.finish(), foe.spans_so_far()), (sum(count for count, _ in spans), spans))

    def test_right_orders(self):
        """In a right order the heaviest weight falls by 1 with each room as they come."""
        for web in [Web.line(4), *some_webs(307)]:
            for order in right_orders_of(web, 13):
                needs = tuple(1 + (thing * 3) % 4 for thing in range(web.many))
                foe = FoeBook(order, needs)
                whole = foe.heavy
                for step in range(30):
                    self.same(foe.own_many + foe.met_many, whole - foe.heavy)
                    lots = lots_left(order, foe.now_left)
                    if step % 2 or not any(foe.now_left):
                        foe.will(lots[step % len(lots)])
                    else:
                        foe.own()

    def test_what_a_foe_can_bring_about(self):
        for web in [*some_webs(9, 4), Web.line(4)]:
            for order in right_orders_of(web, 9):
                for needs in ((1, 1, 1, 1), (2, 1, 0, 1)):
                    most = heaviest_weight(web, needs)
                    for times in range(4):
                        numbers = own_numbers(4, web.clashes, order.row, needs, times)
                        self.same(sorted(numbers), list(range(max(0, most - times), most + 1)))

    def test_orders_that_are_not_right(self):
        for web in [Web.line(4), *some_webs(307)]:
            for order in wrong_orders_of(web, 13):
                foe = FoeBook(order, ones_on(web.many, bad_by_hand(web, order.row)[0]))
                self.same((foe.heavy, foe.finish(), foe.own_many), (2, 3, 3))

    def test_the_document_s_example(self):
        foe = FoeBook(Order.plain(Web.line(4)), (2, 1, 3, 1))
        got = (foe.will((3, 1)), foe.own(), foe.finish())
        self.same((got, foe.own_many, foe.met_many, foe.spans_so_far()),
                  (((1, 3), (0, 2), 2), 3, 1, ((1, (1, 3)), (2, (0, 2)), (1, (2,)))))

    def test_great_needs(self):
        foe = FoeBook(Order.plain(Web.line(4)), (2 * MOST, MOST, 3 * MOST, MOST))
        self.same((foe.will((3, 1)), foe.own(), foe.heavy), ((1, 3), (0, 2), 4 * MOST - 2))
        self.same(foe.finish(), 4 * MOST - 2)
        self.same((foe.own_many, foe.will_many, foe.met_many, foe.heavy, foe.now_left),
                  (4 * MOST - 1, 1, 1, 0, (0, 0, 0, 0)))
        self.same(foe.spans_so_far(), ((1, (1, 3)), (2 * MOST, (0, 2)), (MOST - 1, (1, 3)), (MOST, (2,))))


class Edges(Case):
    def test_empty_lots(self):
        foe = FoeBook(Order.plain(Web.full(2)))
        for _ in range(3):
            self.same(foe.will(()), ())
        self.same(foe.own(), (0,))
        self.same((foe.will([]), foe.finish(), foe.will(())), ((), 1, ()))
        self.same((foe.spans_so_far(), foe.will_many, foe.met_many),
                  (((3, ()), (1, (0,)), (1, ()), (1, (1,)), (1, ())), 5, 0))

    def test_no_thing_and_no_need(self):
        for foe in (FoeBook(Order.plain(Web(0))), FoeBook(Order.plain(Web.line(3)), (0, 0, 0))):
            self.same((foe.heavy, foe.finish(), foe.spans_so_far()), (0, 0, ()))
            self.raises(NoneSuch("left"), foe.own)
            self.same((foe.will(()), foe.met_many, foe.will_many, foe.spans_so_far()), ((), 0, 1, ((1, ()),)))
        one = FoeBook(Order.plain(Web(1)))
        self.same((one.needs, one.will([0]), one.met_many, one.heavy, one.finish()), ((1,), (0,), 1, 0, 0))

    def test_needs_of_none(self):
        foe = FoeBook(WRONG)
        self.same((foe.needs, foe.now_left, foe.finish()), ((1, 1, 1, 1), (1, 1, 1, 1), 3))

    def test_does_not_keep_the_list(self):
        needs = [1, 2, 3, 4]
        foe = FoeBook(WRONG, needs)
        needs[0] = 9
        self.same((foe.needs, foe.now_left), ((1, 2, 3, 4), (1, 2, 3, 4)))

    def test_errors_in_order(self):
        self.raises(BadNeeds(1), FoeBook, WRONG, (1, -1, 1, 1))
        self.raises(BadNeeds(3), FoeBook, WRONG, [1, 1, 1])
        foe = FoeBook(WRONG, (0, 1, 1, 1))
        before = told(foe)
        for thing in (4, -1, *NO_INTEGERS):
            self.raises(BadPart(2), foe.will, [0, 1, thing])
        self.raises(BadPart(1), foe.will, (0, 0))
        self.raises(NotLot(0, 1), foe.will, (2, 1, 0))
        self.raises(NotLot(1, 2), foe.will, (3, 2, 1))
        self.raises(NoneSuch("need"), foe.will, (3, 0))
        # A call that raises changes nothing.
        self.same(told(foe), before)

    def test_all_sets_at_will(self):
        web = Web.line(4)
        for things in subsets(range(4)):
            foe = FoeBook(Order.plain(web), (1, 0, 1, 1))
            clashes = [pair for pair in pairs_of(things) if clash(web, *pair)]
            if clashes:
                self.raises(NotLot(*clashes[0]), foe.will, things)
            elif 1 in things:
                self.raises(NoneSuch("need"), foe.will, things)
            else:
                self.same(foe.will(things), things)


if __name__ == "__main__":
    unittest.main()
