"""The facts of stage 1: points 6 to 10."""

import unittest
from itertools import combinations, permutations, product

from perfectorders.joins import beside, joined, put_in
from perfectorders.knots import full_knots, full_lots, heaviest, knots_of, lots_of
from perfectorders.makers import doubled
from perfectorders.quads import contrary_row, ends_of, middles_of, rows_of_four
from perfectorders.webs import Web
from tests.by_hand import Case, all_webs, clash, is_knot, is_lot, near, some_webs, subsets

SMALL = (Web(0), Web(1), Web.full(2), Web.bare(2), Web.line(4))


def is_ring(web, things):
    """Whether the things can be written in a cyclic order in which just neighbours clash."""
    if len(things) < 3:
        return False
    first, *rest = things
    for row in permutations(rest):
        cycle = (first, *row)
        beside_one = {tuple(sorted((cycle[at - 1], cycle[at]))) for at in range(len(cycle))}
        if all(clash(web, x, y) == ((x, y) in beside_one) for x, y in combinations(sorted(cycle), 2)):
            return True
    return False


def has_ring(web, sizes):
    return any(is_ring(web, part) for size in sizes for part in combinations(range(web.many), size))


def both_ways(rows):
    return sorted([*rows, *[row[::-1] for row in rows]])


class Knots(Case):
    def test_each_lies_in_a_full_one(self):
        for web in some_webs(61):
            for part in subsets(range(5)):
                full = full_knots(web, part)
                for knot in knots_of(web, part):
                    self.assertTrue(any(set(knot) <= set(other) for other in full))
                    greater = [x for x in part if set(knot) <= set(near(web, x))]
                    self.same(knot in full, not greater)

    def test_a_full_knot_and_a_full_lot(self):
        for web in all_webs(4):
            for knot, lot in product(full_knots(web), full_lots(web)):
                self.assertLessEqual(len(set(knot) & set(lot)), 1)

    def test_within_a_knot(self):
        for web in some_webs(97):
            for knot in knots_of(web):
                for inner in subsets(knot):
                    self.assertLessEqual(heaviest(web, (3, 1, 0, 2, 1), knot), heaviest(web, (3, 1, 0, 2, 1), inner))


class Contraries(Case):
    def test_knots_are_lots(self):
        for web in all_webs(5):
            self.same(~~web, web)
            self.same(list(knots_of(web)), list(lots_of(~web)))
            self.same(full_knots(web), full_lots(~web))

    def test_rows(self):
        for web in all_webs(5):
            rows = rows_of_four(web)
            self.same(rows_of_four(~web), tuple(sorted(contrary_row(row) for row in rows)))
            self.same(sorted(sorted(row) for row in rows), sorted(sorted(row) for row in rows_of_four(~web)))


class Rows(Case):
    def test_ends_and_middles_together(self):
        for web in [*some_webs(17), Web.line(8), Web.ring(7)]:
            for thing in range(web.many):
                told = [tuple(sorted(row)) for row in (*ends_of(web, thing), *middles_of(web, thing))]
                expected = [tuple(sorted(row)) for row in rows_of_four(web) if thing in row]
                self.same(sorted(told), sorted(expected))

    def test_put_in(self):
        for outer in (Web.line(4), Web.ring(5), Web.full(3), Web.bare(3)):
            for webs in list(product(SMALL, repeat=outer.many))[::23]:
                firsts = [sum(web.many for web in webs[:v]) for v in range(len(webs))]
                expected = []
                for first, web in zip(firsts, webs):
                    expected.extend(tuple(first + x for x in row) for row in both_ways(rows_of_four(web)))
                for row in both_ways(rows_of_four(outer)):
                    expected.extend(tuple(firsts[v] + x for v, x in zip(row, choice))
                                    for choice in product(*[range(webs[v].many) for v in row]))
                self.same(both_ways(rows_of_four(put_in(outer, webs))), sorted(expected))

    def test_beside_and_joined_are_put_in(self):
        for webs in product(SMALL, repeat=3):
            self.same(beside(*webs), put_in(Web.bare(3), webs))
            self.same(joined(*webs), put_in(Web.full(3), webs))

    def test_contrary_of_what_is_put_in(self):
        for outer in (Web.line(3), Web.full(3), Web.bare(3)):
            for webs in product(SMALL, repeat=3):
                self.same(~put_in(outer, webs), put_in(~outer, [~web for web in webs]))


class MadeWebs(Case):
    def test_numbers_of_rows(self):
        for many in range(3, 17):
            self.same(len(rows_of_four(Web.ring(many))), many if many >= 5 else 0)
            self.same(len(rows_of_four(Web.line(many))), many - 3)
        for many in range(17):
            for web in (Web.full(many), Web.bare(many), Web.star(many)):
                self.same(rows_of_four(web), ())

    def test_stretches_and_rules_have_no_odd_ring(self):
        webs = [Web.stretches(rows) for rows in product([(0, 0), (0, 1), (1, 2), (2, 2), (1, 1)], repeat=5)][::53]
        # Rules from lesser to greater things, which never go against one another.
        rules = list(combinations(range(5), 2))
        webs.extend(Web.ruled(5, picked) for size in range(3, 8) for picked in combinations(rules, size))
        self.assertGreater(len(webs), 50)
        for web in webs:
            self.assertFalse(has_ring(web, (5,)))
            self.assertFalse(has_ring(~web, (5,)))

    def test_rings_are_rings(self):
        for many in range(3, 8):
            self.assertTrue(is_ring(Web.ring(many), tuple(range(many))))
            self.assertFalse(has_ring(Web.line(many), range(3, many + 1)))

    def test_doubled(self):
        for levels in range(1, 5):
            web, row = doubled(levels)
            self.same(web.many, 2 ** (levels - 1))
            self.assertFalse(has_ring(web, range(3, web.many + 1)))

    def test_facts_of_sets(self):
        for web in all_webs(3):
            self.assertTrue(is_knot(web, ()) and is_lot(web, ()))
            for thing in range(web.many):
                self.assertTrue((thing,) in list(knots_of(web)) and (thing,) in list(lots_of(web)))


if __name__ == "__main__":
    unittest.main()
