"""perfectorders/quads.py: [3] rows of four and threes."""

import unittest
from itertools import permutations, product

from perfectorders.errors import BadPart, BadThing
from perfectorders.quads import contrary_row, ends_of, is_row, middles_of, rows_of_four, threes
from perfectorders.webs import Web
from tests.by_hand import Case, NO_INTEGERS, all_webs, clash, rows_by_hand, subsets


class Rows(Case):
    def test_all_webs(self):
        for web in all_webs(5):
            self.same(rows_of_four(web), rows_by_hand(web))

    def test_the_document_s_example(self):
        web = Web.line(5)
        self.same([rows_of_four(web), rows_of_four(~web)],
                  [((0, 1, 2, 3), (1, 2, 3, 4)), ((1, 3, 0, 2), (2, 4, 1, 3))])

    def test_is_row(self):
        for web in all_webs(4):
            found = set(rows_by_hand(web))
            for row in product(range(web.many), repeat=4):
                self.same(is_row(web, *row), row in found or row[::-1] in found)

    def test_is_row_names_the_first_that_is_no_thing(self):
        web = Web.line(4)
        for thing in (4, -1, *NO_INTEGERS):
            self.raises(BadThing(thing), is_row, web, thing, 9, 9, 9)
            self.raises(BadThing(thing), is_row, web, 0, thing, 9, 9)
            self.raises(BadThing(thing), is_row, web, 0, 0, thing, 9)
            self.raises(BadThing(thing), is_row, web, 0, 0, 0, thing)

    def test_contrary_row(self):
        self.same(contrary_row((0, 1, 2, 3)), (1, 3, 0, 2))
        self.same(contrary_row([0, 2, 1, 3]), (1, 0, 3, 2))
        for web in all_webs(4):
            self.same(tuple(sorted(contrary_row(row) for row in rows_of_four(web))), rows_by_hand(~web))

    def test_contrary_row_of_either_reading(self):
        for row in permutations(range(4)):
            a, b, c, d = row
            self.same(contrary_row(row), (b, d, a, c) if b < c else (c, a, d, b))
            self.same(contrary_row(row), contrary_row(row[::-1]))


class Threes(Case):
    def test_all_webs(self):
        for web in all_webs(5):
            found = [(x, m, y) for m, x, y in product(range(web.many), repeat=3)
                     if x < y and clash(web, x, m) and clash(web, m, y) and not clash(web, x, y)]
            self.same(threes(web), tuple(found))

    def test_sorted_by_the_middle(self):
        self.same(threes(Web.line(4)), ((0, 1, 2), (1, 2, 3)))
        self.same(threes(Web(4, [(3, 0), (3, 1), (0, 2)])), ((2, 0, 3), (0, 3, 1)))


class EndsAndMiddles(Case):
    def test_all_parts(self):
        for web in [*all_webs(4), Web.ring(5), Web.line(6), ~Web.line(6)]:
            rows = rows_by_hand(web)
            both = [*rows, *[row[::-1] for row in rows]]
            for part in [None, *subsets(range(web.many))]:
                kept = range(web.many) if part is None else part
                told = sorted(row for row in both if set(row) <= set(kept))
                for thing in range(web.many):
                    self.same(ends_of(web, thing, part), tuple(row for row in told if row[0] == thing))
                    self.same(middles_of(web, thing, part), tuple(row for row in told if row[1] == thing))

    def test_part_in_any_order(self):
        web = Web.line(6)
        self.same(ends_of(web, 3, [3, 1, 0, 2]), ((3, 2, 1, 0),))
        self.same(middles_of(web, 3, [5, 1, 2, 3, 4]), ((2, 3, 4, 5), (4, 3, 2, 1)))
        self.same((ends_of(web, 4, (0, 1, 2, 3)), middles_of(web, 4, ())), ((), ()))

    def test_errors(self):
        web = Web.line(4)
        for call in (ends_of, middles_of):
            for thing in (4, -1, *NO_INTEGERS):
                self.raises(BadThing(thing), call, web, thing, [7])
            self.raises(BadPart(1), call, web, 0, [0, 4, 0])
            self.raises(BadPart(2), call, web, 3, (0, 1, 0))


if __name__ == "__main__":
    unittest.main()
