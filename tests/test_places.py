"""perfectorders/places.py: [106] new things, [107] floors and roofs, [108] one stretch, [109] to [111]."""

import unittest
from itertools import permutations, product
from random import Random

from perfectorders.errors import BadNumber, BadOrder, BadThing, NoneSuch, NoPlace
from perfectorders.knots import heaviest
from perfectorders.orders import Order
from perfectorders.places import Stretch, may_be_first, may_be_last, moves_of, new_bad, places_for, put_first
from perfectorders.quads import rows_of_four
from perfectorders.webs import Web
from tests.by_hand import (Case, NO_INTEGERS, all_orders, all_webs, at, bad_by_hand, clash, count_by_hand,
                           heaviest_weight, near, ones_on, rows_by_hand, some_webs)

LINE = Web.line(4)
LETTER_TEXTS = ("F", "T", "C", "D", "FT", "CF", "FTCD", "DCTF", "")


def letters_of(web, row, four):
    """The letters in which the row of four (read with a < d) is bad in the row of all things."""
    place = {thing: at for at, thing in enumerate(row)}
    a, b, c, d = four
    told = (("F", (a, b), (d, c)), ("T", (b, a), (c, d)), ("C", (b, d), (c, a)), ("D", (d, b), (a, c)))
    return {letter for letter, (x, y), (z, u) in told if place[x] < place[y] and place[z] < place[u]}


def put(others, thing, place):
    return others[:place] + (thing,) + others[place:]


def readings(web, thing):
    """All rows of four with the thing, read with it first or second."""
    found = []
    for row in permutations(range(web.many), 4):
        a, b, c, d = row
        if thing in (a, b) and clash(web, a, b) and clash(web, b, c) and clash(web, c, d):
            if not clash(web, a, c) and not clash(web, b, d) and not clash(web, a, d):
                found.append(row)
    return sorted(found)


def asks_by_hand(web, others, thing, letters):
    """The floors and the roofs, as the lines of point 107 tell them."""
    def ahead(x, y):
        return others.index(x) < others.index(y)
    floors, roofs = [], []
    for row in readings(web, thing):
        a, b, c, d = row
        if a == thing:
            told = {"F": (ahead(d, c), floors, b), "T": (ahead(c, d), roofs, b),
                    "C": (ahead(b, d), roofs, c), "D": (ahead(d, b), floors, c)}
        else:
            told = {"F": (ahead(d, c), roofs, a), "T": (ahead(c, d), floors, a),
                    "C": (ahead(c, a), floors, d), "D": (ahead(a, c), roofs, d)}
        for letter in letters:
            holds, where, other = told[letter]
            if holds:
                where.append((other, row))
    return tuple(sorted(floors)), tuple(sorted(roofs))


def cases():
    """Webs with a thing and a row of the others."""
    for web in all_webs(3, 1):
        for thing in range(web.many):
            for others in permutations([x for x in range(web.many) if x != thing]):
                yield web, others, thing
    for web in [LINE, *some_webs(5, 4), *some_webs(19)]:
        for thing in range(web.many):
            rows = list(permutations([x for x in range(web.many) if x != thing]))
            for others in rows[thing::7]:
                yield web, others, thing
    chance = Random(5)
    for number in range(120):
        web = Web(7, [(x, y) for y in range(7) for x in range(y) if chance.random() < 0.2 + number % 6 / 10])
        row = list(range(7))
        chance.shuffle(row)
        yield web, tuple(row[1:]), row[0]


class Stretches(Case):
    def test_floors_roofs_and_ends(self):
        for number, (web, others, thing) in enumerate(cases()):
            for letters in LETTER_TEXTS[number % 3::3]:
                stretch = Stretch(web, list(others), thing, letters)
                floors, roofs = asks_by_hand(web, others, thing, letters)
                self.same((stretch.web, stretch.others, stretch.thing, stretch.letters, stretch.floors, stretch.roofs),
                          (web, others, thing, letters, floors, roofs))
                first = max([others.index(other) + 1 for other, _ in floors], default=0)
                last = min([others.index(other) for other, _ in roofs], default=len(others))
                self.same((stretch.first, stretch.last, stretch.is_none), (first, last, first > last))
                places = tuple(range(first, last + 1))
                self.same((stretch.place_list(), len(stretch), bool(stretch)), (places, len(places), bool(places)))

    def test_by_putting_the_thing_at_every_place(self):
        for web, others, thing in cases():
            rows = rows_by_hand(web)
            for letters in ("F", "T", "C", "D", "FD", "FTCD"):
                stretch = places_for(web, others, thing, letters)
                for place in range(len(others) + 1):
                    whole = put(others, thing, place)
                    bad = any(letters_of(web, whole, row) & set(letters) for row in rows if thing in row)
                    self.same(stretch.has(place), not bad)
                    self.same(stretch.order_at(place), Order(web, whole))

    def test_right_others(self):
        """If the others are right, the order is right at just the places of the stretch."""
        for web, others, thing in cases():
            if not [row for row in bad_by_hand(web, (*others, thing)) if thing not in row]:
                stretch = places_for(web, others, thing)
                right = [place for place in range(len(others) + 1) if not bad_by_hand(web, put(others, thing, place))]
                self.same(stretch.place_list(), tuple(right))
                if right:
                    self.same(put_first(web, others, thing), Order(web, put(others, thing, right[0])))

    def test_two_rows(self):
        empty = 0
        for web, others, thing in cases():
            for letters in ("F", "T", "CD", "FTCD"):
                stretch = Stretch(web, others, thing, letters)
                if not stretch.is_none:
                    self.raises(NoneSuch("rows"), stretch.two_rows)
                    continue
                empty += 1
                last, first = others[stretch.first - 1], others[stretch.last]
                expected = (min(row for other, row in stretch.floors if other == last),
                            min(row for other, row in stretch.roofs if other == first))
                self.same(stretch.two_rows(), expected)
                if letters == "F":
                    self.raises(NoPlace(*expected), put_first, web, others, thing)
                    # The two rows alone forbid every place.
                    for place in range(len(others) + 1):
                        told = [letters_of(web, put(others, thing, place), row) for row in expected]
                        self.assertTrue(any("F" in one for one in told))
        self.assertGreater(empty, 50)

    def test_examples(self):
        stretch = places_for(LINE, (3, 1, 2), 0)
        self.same((stretch.first, stretch.last, stretch.floors, stretch.roofs), (2, 3, ((1, (0, 1, 2, 3)),), ()))
        self.same(places_for(Web.ring(5), (1, 2, 3, 4), 0).two_rows(), ((0, 4, 3, 2), (1, 0, 4, 3)))

    def test_one_thing(self):
        stretch = Stretch(Web(1), (), 0)
        self.same((stretch.first, stretch.last, stretch.place_list(), stretch.order_at(0), stretch.is_none),
                  (0, 0, (0,), Order(Web(1), (0,)), False))
        self.same((put_first(Web(1), [], 0), new_bad(Web(1), (), 0, 0)), (Order(Web(1), (0,)), ()))

    def test_no_place_outside(self):
        stretch = places_for(LINE, (3, 1, 2), 0)
        for value in (*NO_INTEGERS, -1, 4, 5, 2.0, LINE, [], "2"):
            self.same(stretch.has(value), False)
        for value in (-1, 4, *NO_INTEGERS):
            self.raises(BadNumber("place"), stretch.order_at, value)
        self.same((stretch.has(2), stretch.has(3), stretch.has(1)), (True, True, False))

    def test_slots(self):
        self.assertEqual(sorted(Stretch.__slots__), ["floors", "letters", "others", "roofs", "thing", "web"])
        self.assertFalse(hasattr(places_for(LINE, (3, 1, 2), 0), "__dict__"))

    def test_does_not_keep_the_list(self):
        others = [3, 1, 2]
        stretch = places_for(LINE, others, 0)
        others.clear()
        self.same((stretch.others, stretch.first), ((3, 1, 2), 2))


class Errors(Case):
    def calls(self):
        yield Stretch
        yield places_for
        yield put_first
        yield lambda web, others, thing: new_bad(web, others, thing, 99)

    def test_things_and_others(self):
        for call in self.calls():
            for value in (-1, 4, *NO_INTEGERS):
                self.raises(BadThing(value), call, LINE, (9, 9), value)
                self.raises(BadOrder(1), call, LINE, (1, value, value), 0)
            self.raises(BadOrder(1), call, LINE, (1, 0, 2), 0)
            self.raises(BadOrder(2), call, LINE, [1, 2, 1], 0)
            self.raises(BadOrder(2), call, LINE, (1, 2), 0)
            self.raises(BadOrder(0), call, LINE, (), 0)
            self.raises(BadOrder(3), call, LINE, (1, 2, 3, 1), 0)
            self.raises(BadOrder(3), call, LINE, (1, 2, 3, 4), 0)
            self.raises(BadThing(0), call, Web(0), (), 0)

    def test_letters(self):
        for letters in ("FF", "X", "f", "FTX", None, 3, ["F"], ("F",), True, "FTCDF", b"F"):
            for call in (Stretch, places_for):
                self.raises(BadNumber("letters"), call, LINE, (3, 1, 2), 0, letters)
                self.raises(BadOrder(0), call, LINE, (0,), 0, letters)
                self.raises(BadThing(7), call, LINE, (0,), 7, letters)
            self.raises(BadNumber("letters"), moves_of, Order.plain(LINE), 0, letters)
            self.raises(BadThing(4), moves_of, Order.plain(LINE), 4, letters)

    def test_place_of_new_bad(self):
        for value in (-1, 4, *NO_INTEGERS):
            self.raises(BadNumber("place"), new_bad, LINE, (3, 1, 2), 0, value)

    def test_first_and_last(self):
        for value in (-1, 4, *NO_INTEGERS):
            for call in (may_be_first, may_be_last):
                self.raises(BadThing(value), call, LINE, value)


class Moves(Case):
    def test_places_to_which_a_thing_may_be_moved(self):
        for web in [LINE, *some_webs(23)]:
            for order in all_orders(web)[::7]:
                for thing in range(web.many):
                    for letters in ("F", "C", "TD"):
                        stretch = moves_of(order, thing, letters)
                        others = tuple(x for x in order.row if x != thing)
                        self.same((stretch.others, stretch.thing, stretch.letters), (others, thing, letters))
                        kept = not any(letters_of(web, order.row, row) & set(letters) for row in rows_by_hand(web))
                        if kept:
                            self.same(stretch.has(order.row.index(thing)), True)
                            for place in range(web.many):
                                row = put(others, thing, place)
                                bad = any(letters_of(web, row, four) & set(letters) for four in rows_by_hand(web))
                                self.same(stretch.has(place), not bad)

    def test_default_letters(self):
        self.same((moves_of(Order.plain(LINE), 2).letters, places_for(LINE, (1, 2, 3), 0).letters), ("F", "F"))

    def test_twins(self):
        for web in [LINE, Web.ring(4), *some_webs(101, 4)]:
            for order in all_orders(web):
                for u, clashing in product(range(web.many), (False, True)):
                    v = web.many
                    more = web.with_thing([*near(web, u), *([u] if clashing else [])])
                    if bad_by_hand(web, order.row):
                        continue
                    spot = order.row.index(u)
                    self.same(bad_by_hand(more, put(order.row, v, spot)), ())
                    self.same(bad_by_hand(more, put(order.row, v, spot + 1)), ())

    def test_first_and_last(self):
        for web in [*all_webs(4), *some_webs(7)]:
            for thing in range(web.many):
                ends = any(thing in (row[0], row[3]) for row in rows_by_hand(web))
                middles = any(thing in row[1:3] for row in rows_by_hand(web))
                self.same((may_be_first(web, thing), may_be_last(web, thing)), (not ends, not middles))
                others = tuple(x for x in range(web.many) if x != thing)
                first = all(not new_bad(web, row, thing, 0) for row in permutations(others))
                last = all(not new_bad(web, row, thing, len(others)) for row in permutations(others))
                self.same((first, last), (not ends, not middles))

    def test_new_bad_rows(self):
        for web, others, thing in cases():
            for place in range(len(others) + 1):
                bad = bad_by_hand(web, put(others, thing, place))
                self.same(new_bad(web, list(others), thing, place), tuple(row for row in bad if thing in row))

    def test_needs_of_a_new_thing(self):
        """[109]: the room count at each place of the stretch, and what no place exceeds."""
        for number, (web, others, thing) in enumerate(cases()):
            if web.many > 5 or number % 3 or [row for row in bad_by_hand(web, (*others, thing)) if thing not in row]:
                continue
            needs = tuple((number * 7 + other * 5) % 4 for other in range(web.many))
            off = at(needs, thing, 0)
            clashing = ones_on(web.many, near(web, thing))
            knot = max(needs[thing] + heaviest_weight(web, tuple(a * b for a, b in zip(off, clashing))), heaviest(web, off))
            for place in range(len(others) + 1):
                count = count_by_hand(web, put(others, thing, place), needs)
                self.assertLessEqual(count, heaviest(web, off) + needs[thing])
                if places_for(web, others, thing).has(place):
                    self.same(count, knot)
                else:
                    bad = new_bad(web, others, thing, place)[0]
                    told = ones_on(web.many, bad)
                    self.same((count_by_hand(web, put(others, thing, place), told), heaviest_weight(web, told)), (3, 2))

    def test_sixteen_things(self):
        web = Web.ring(15).with_thing(tuple(range(0, 15, 2)))
        others = tuple(range(0, 15, 2)) + tuple(range(1, 15, 2))
        stretch = places_for(web, others, 15, "FD")
        rows = [row for row in rows_of_four(web) if 15 in row]
        self.assertTrue(rows and (stretch.floors or stretch.roofs))
        for place in range(16):
            bad = any(letters_of(web, put(others, 15, place), row) & {"F", "D"} for row in rows)
            self.same(stretch.has(place), not bad)


if __name__ == "__main__":
    unittest.main()
