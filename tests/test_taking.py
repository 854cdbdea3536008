"""perfectorders/taking.py: [112] taking, [113] one core, [114] orders by takes."""

import unittest
from itertools import permutations
from random import Random

from perfectorders.books import Book, room_count
from perfectorders.choices import has_right_order, right_order
from perfectorders.errors import BadNumber, BadOrder, BadPart, BadThing, NoneSuch, NoOrder
from perfectorders.joins import beside, joined, put_in
from perfectorders.orders import Order
from perfectorders.strangers import held_by
from perfectorders.taking import (Taking, core, core_paper, is_core_like, no_ends, no_middles, order_by_core,
                                  takes_order)
from perfectorders.webs import Web
from tests.by_hand import (Case, NO_INTEGERS, all_orders, all_webs, bad_by_hand, heaviest_lot_weight,
                           heaviest_weight, part_web, right_orders_of, rows_by_hand, some_webs, subsets)

LINE = Web.line(4)
RING = Web.ring(5)


def rows_within(web, part):
    return [row for row in rows_by_hand(web) if set(row) <= set(part)]


def fitting(web, part):
    """The things of the part that are no end, and those that are no middle, within it."""
    ends = {row[at] for row in rows_within(web, part) for at in (0, 3)}
    middles = {row[at] for row in rows_within(web, part) for at in (1, 2)}
    return tuple(x for x in sorted(part) if x not in ends), tuple(x for x in sorted(part) if x not in middles)


def core_by_hand(web, choose=min):
    """What is left when things are taken, each the chosen one of those that may be."""
    left = set(range(web.many))
    while True:
        free = set(fitting(web, left)[0]) | set(fitting(web, left)[1])
        if not free:
            return tuple(sorted(left))
        left.discard(choose(free))


def cases():
    chance = Random(2)
    found = [*all_webs(4), *some_webs(11), RING, ~Web.ring(6), Web.ring(6), RING + LINE, RING * LINE, Web.ring(7),
             put_in(RING, [Web(2), Web(1), Web.line(2), Web(1), Web(1)]), RING.with_thing((0, 1)).with_thing((5, 2))]
    for number in range(60):
        found.append(Web(7, [(x, y) for y in range(7) for x in range(y) if chance.random() < 0.3 + number % 4 / 10]))
    return found


class NoEnds(Case):
    def test_all_parts(self):
        for web in cases()[::3]:
            for part in subsets(range(web.many))[::2 if web.many > 5 else 1]:
                self.same((no_ends(web, list(part[::-1])), no_middles(web, part)), fitting(web, part))
            self.same((no_ends(web), no_middles(web, None)), fitting(web, range(web.many)))

    def test_edges(self):
        self.same((no_ends(LINE), no_middles(LINE)), ((1, 2), (0, 3)))
        self.same((no_ends(Web(0)), no_middles(Web(1)), no_ends(LINE, ()), no_middles(LINE, [2])), ((), (0,), (), (2,)))

    def test_errors(self):
        for part, place in (([0, 4], 1), ((0, 0), 1), ([-1], 0)):
            for call in (no_ends, no_middles, is_core_like):
                self.raises(BadPart(place), call, LINE, part)
        for value in NO_INTEGERS:
            for call in (no_ends, no_middles, is_core_like):
                self.raises(BadPart(1), call, LINE, (0, value))


class Takings(Case):
    def play(self, web, chance):
        """Take things in any order and on any side; what is told all along is checked."""
        taking = Taking(web)
        left, front, back, takes = set(range(web.many)), (), (), ()
        while True:
            self.same((taking.things_left, taking.front, taking.back, taking.takes_row),
                      (tuple(sorted(left)), front, back, takes))
            ends, middles = fitting(web, left)
            for thing in range(web.many):
                for side, free in (("front", ends), ("back", middles), (None, ends + middles)):
                    if thing in left and thing not in free:
                        self.raises(NoneSuch("take"), taking.take, thing, side)
                    if thing not in left:
                        self.raises(BadThing(thing), taking.take, thing, side)
            free = sorted(set(ends) | set(middles))
            if not free:
                return taking
            thing = chance.choice(free)
            sides = [side for side, fits in (("front", ends), ("back", middles)) if thing in fits]
            side = chance.choice([*sides, None])
            told = taking.take(thing, side)
            self.same(told, sides[0] if side is None else side)
            left.discard(thing)
            takes += ((thing, told),)
            front += (thing,) * (told == "front")
            back += (thing,) * (told == "back")

    def test_one_core_whatever_is_taken(self):
        chance = Random(9)
        for web in cases()[::4]:
            for _ in range(2):
                taking = self.play(web, chance)
                self.same(taking.things_left, core_by_hand(web))
                self.same(taking.take_all(), core_by_hand(web))

    def test_take_all(self):
        for web in cases():
            taking = Taking(web)
            takes = ()
            left = set(range(web.many))
            while set(fitting(web, left)[0]) | set(fitting(web, left)[1]):
                ends, middles = fitting(web, left)
                thing = min(ends + middles)
                takes += ((thing, "front" if thing in ends else "back"),)
                left.discard(thing)
            self.same((taking.take_all(), taking.takes_row), (tuple(sorted(left)), takes))
            self.same(taking.things_left, core_by_hand(web))

    def test_go_on_behind_some_takes(self):
        taking = Taking(LINE)
        self.same((taking.take(1, "front"), taking.take(3), taking.take_all()), ("front", "front", ()))
        self.same((taking.web, taking.front, taking.back), (LINE, (1, 3, 0, 2), ()))
        taking = Taking(LINE)
        self.same((taking.take(3), taking.take(2, "back"), taking.front, taking.back), ("back", "back", (), (3, 2)))

    def test_example(self):
        taking = Taking(LINE)
        got = (taking.take_all(), taking.takes_row, takes_order(taking).row, core(RING))
        self.same(got, ((), ((0, "back"), (1, "front"), (2, "front"), (3, "front")), (1, 2, 3, 0), (0, 1, 2, 3, 4)))

    def test_errors(self):
        taking = Taking(LINE)
        for value in (-1, 4, *NO_INTEGERS):
            self.raises(BadThing(value), taking.take, value, "nowhere")
        for side in ("", "Front", 0, True, False, ("front",), ["back"], 1.0, LINE, "frontback"):
            self.raises(BadNumber("side"), taking.take, 0, side)
        self.raises(NoneSuch("take"), taking.take, 0, "front")
        self.raises(NoneSuch("take"), taking.take, 1, "back")
        self.same((taking.things_left, taking.takes_row, taking.front, taking.back), ((0, 1, 2, 3), (), (), ()))
        ring = Taking(RING)
        for side in (None, "front", "back"):
            self.raises(NoneSuch("take"), ring.take, 2, side)

    def test_edges(self):
        taking = Taking(Web(0))
        self.same((taking.take_all(), taking.takes_row, taking.things_left, takes_order(taking)),
                  ((), (), (), Order(Web(0), ())))
        taking = Taking(Web(1))
        self.same((taking.take(0, "back"), taking.back, takes_order(taking).row), ("back", (0,), (0,)))


class Cores(Case):
    def test_greatest_set_like_a_core(self):
        for web in cases():
            if web.many < 7:
                like = []
                for part in subsets(range(web.many)):
                    ends, middles = fitting(web, part)
                    good = not ends and not middles
                    self.same(is_core_like(web, part[::-1]), good)
                    if good:
                        like.append(part)
                self.assertTrue(all(set(part) <= set(core(web)) for part in like))
                self.assertIn(core(web), like)
            self.same(core(web), core_by_hand(web))
            self.same(core(web), core_by_hand(web, max))

    def test_contrary_and_parts(self):
        for web in cases()[::3]:
            self.same(core(~web), core(web))
            for part in subsets(range(web.many))[::9]:
                left = [part[number] for number in core(part_web(web, part))]
                self.assertTrue(set(left) <= set(core(web)))

    def test_contrary_takes(self):
        for web in cases()[::5]:
            taking, other = Taking(web), Taking(~web)
            taking.take_all()
            for thing, side in taking.takes_row:
                other.take(thing, "back" if side == "front" else "front")
            self.same(other.things_left, taking.things_left)

    def test_webs_made_of_webs(self):
        webs = [RING, LINE, ~Web.ring(6)]
        for whole in (beside(*webs), joined(*webs)):
            self.same(core(whole), (0, 1, 2, 3, 4, 9, 10, 11, 12, 13, 14))
        outer = RING.with_thing((0,))
        webs = [Web(2), Web(1), Web.line(2), Web(1), Web.line(3), Web(2)]
        self.same(core(put_in(outer, webs)), tuple(range(9)))

    def test_full_and_empty_cores(self):
        for many in range(5, 17):
            self.same((core(Web.ring(many)), core(~Web.ring(many))), (tuple(range(many)),) * 2)
        for web in (Web(0), Web(1), Web.full(9), Web.bare(16), Web.line(16), Web.star(16), Web.ring(4),
                    Web.stretches([(0, 3), (1, 5), (4, 8), (6, 7), (2, 2)])):
            self.same((core(web), core_paper(web), is_core_like(web, ())), ((), (), True))

    def test_papers(self):
        for web in cases():
            left = core(web)
            rows = rows_within(web, left)
            both = rows + [row[::-1] for row in rows]
            expected = tuple((thing, min(row for row in both if row[0] == thing), min(row for row in both if row[1] == thing))
                             for thing in left)
            self.same(core_paper(web), expected)


class Orders(Case):
    def test_takes_order(self):
        chance = Random(4)
        for web in cases()[::3]:
            taking = Taking(web)
            free = [thing for pair in zip(*fitting(web, range(web.many))) for thing in pair]
            for thing in free[:chance.randrange(4)]:
                if thing in taking.things_left and thing in fitting(web, taking.things_left)[0]:
                    taking.take(thing)
            left = taking.things_left
            for middle in [None, left[::-1], *list(permutations(left))[::29]]:
                row = taking.front + (left if middle is None else tuple(middle)) + taking.back[::-1]
                given = middle if middle is None else list(middle)
                self.same(takes_order(taking, given), Order(web, row))
                bad = bad_by_hand(web, row)
                self.assertTrue(all(set(one) <= set(left) for one in bad))

    def test_what_the_order_tells(self):
        """[114]: no bad row where nothing is left, F and D kept, and the room count with a core."""
        for number, web in enumerate(cases()):
            taking = Taking(web)
            left = taking.take_all()
            order = takes_order(taking)
            needs = tuple((number + thing * 5) % 4 for thing in range(web.many))
            contrary = Order(~web, order.row[::-1])
            if not left:
                self.same(bad_by_hand(web, order.row), ())
                self.same(bad_by_hand(~web, order.row[::-1]), ())
                self.same(room_count(order, needs), heaviest_weight(web, needs))
                self.same(room_count(contrary, needs), heaviest_lot_weight(web, needs))
            off = tuple(0 if thing in left else need for thing, need in enumerate(needs))
            book_rooms = held_by(Book(order, needs), left)
            self.assertLessEqual(room_count(order, needs), heaviest_weight(web, off) + book_rooms)

    def test_order_by_core(self):
        wrong = 0
        for web in cases():
            left = core_by_hand(web)
            right = right_orders_of(part_web(web, left)) if len(left) < 7 else None
            if right is None:
                right = [right_order(part_web(web, left))] if has_right_order(part_web(web, left)) else []
            if not right:
                wrong += 1
                self.raises(NoOrder(), order_by_core, web)
                self.same(has_right_order(web), False)
                continue
            taking = Taking(web)
            taking.take_all()
            middle = tuple(left[number] for number in right[0].row)
            self.same(order_by_core(web), Order(web, taking.front + middle + taking.back[::-1]))
            self.same(bad_by_hand(web, order_by_core(web).row), ())
        self.assertGreater(wrong, 3)

    def test_a_core_with_a_right_order(self):
        web = Web.ring(6) + LINE
        self.same(core(web), (0, 1, 2, 3, 4, 5))
        order = order_by_core(web)
        self.same(bad_by_hand(web, order.row), ())
        self.same(tuple(thing for thing in order.row if thing < 6), right_order(Web.ring(6)).row)
        self.same(order_by_core(Web.line(16)).web, Web.line(16))
        self.same(order_by_core(Web(0)), Order(Web(0), ()))

    def test_bad_middle(self):
        taking = Taking(RING + Web.line(3))
        taking.take_all()
        for middle, place in (((0, 1, 2, 3), 4), ([0, 1, 5, 3, 4], 2), ((0, 1, 1, 3, 4), 2), ((), 0), ((0, 1, 2, 3, 4, 0), 5),
                              ((9,), 0), ((0, True, 2, 3, 4), 1), ((0, None, 2, 3, 4), 1), ((0, 1.0), 1)):
            self.raises(BadOrder(place), takes_order, taking, middle)
        empty = Taking(LINE)
        empty.take_all()
        self.raises(BadOrder(0), takes_order, empty, (0,))
        self.same(takes_order(empty, ()), takes_order(empty))


class Facts(Case):
    def test_clashing_things_ahead_are_a_knot(self):
        for web in some_webs(17):
            for order in all_orders(web)[::13]:
                if all(set(order.ahead_of(x)) <= {*order.web.near(y), y} for x in order.row for y in order.ahead_of(x)):
                    self.same(core(web), ())


if __name__ == "__main__":
    unittest.main()
