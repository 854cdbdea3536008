"""perfectorders/rules.py: [121] rules, [122] every order that keeps them, [123] mixings of rows, [124] kinds."""

import unittest
from itertools import permutations, product
from random import Random

from perfectorders.errors import BadNumber, BadOrder, BadRules, BadThing, TooMany
from perfectorders.makers import mixed_rows
from perfectorders.orders import Order
from perfectorders.quads import threes
from perfectorders.rules import Rules, unsafe_order, unsafe_row, unsafe_three, unsafe_twofold
from perfectorders.threekinds import is_gathered, is_middles_first, is_passing
from perfectorders.twofold import is_twofold
from perfectorders.webs import Web
from tests.by_hand import Case, NO_INTEGERS, all_webs, bad_by_hand, rows_by_hand, some_webs

LINE = Web.line(4)


def chains(many, pairs):
    """All pairs (x, y) such that x precedes y."""
    told = {tuple(pair) for pair in pairs}
    while True:
        more = {(x, z) for x, y in told for u, z in told if y == u} - told
        if not more:
            return told
        told |= more


def rows_keeping(many, pairs):
    """All rows that keep the pairs, by going through all rows."""
    return [row for row in permutations(range(many)) if all(row.index(x) < row.index(y) for x, y in pairs)]


def some_pairs(many, number):
    """Pairs that no ring of them turns round: each from a thing to one behind it in some row."""
    chance = Random(number)
    row = list(range(many))
    chance.shuffle(row)
    found = [(row[i], row[j]) for i in range(many) for j in range(i + 1, many) if chance.random() < (number % 6) / 6]
    chance.shuffle(found)
    return found


def cases():
    for number, web in enumerate([*all_webs(4, 2), *some_webs(13), Web.ring(5), Web.line(5), Web.star(5)]):
        for at in range(2):
            yield web, some_pairs(web.many, number * 2 + at)


class TheRules(Case):
    def test_what_precedes(self):
        for many in range(6):
            for number in range(12):
                pairs = some_pairs(many, number)
                rules = Rules(many, [list(pair) for pair in pairs])
                self.same((rules.many, rules.pairs), (many, tuple(pairs)))
                told = chains(many, pairs)
                for x, y in product(range(many), repeat=2):
                    self.same(rules.precedes(x, y), (x, y) in told)

    def test_rows(self):
        for many in range(6):
            for number in range(12):
                pairs = some_pairs(many, number)
                rules = Rules(many, pairs)
                rows = rows_keeping(many, pairs)
                self.same(list(rules.all_rows()), rows)
                self.same(rules.least_row(), rows[0])
                for row in list(permutations(range(many)))[::7]:
                    self.same(rules.keeps_order(list(row)), row in rows)

    def test_least_row_with_pairs(self):
        for many in range(2, 6):
            for number in range(12):
                pairs = some_pairs(many, number)
                rules = Rules(many, pairs)
                chance = Random(number)
                for _ in range(12):
                    more = [chance.sample(range(many), 2) for _ in range(chance.randrange(4))]
                    rows = rows_keeping(many, [*pairs, *more])
                    self.same(rules.least_row_with(more), rows[0] if rows else None)
        rules = Rules(3, [(0, 1)])
        self.same((rules.least_row_with(()), rules.least_row_with([(1, 0)]), rules.least_row_with([[2, 0], [0, 2]])),
                  ((0, 1, 2), None, None))
        self.same(rules.least_row_with(((2, 0), (2, 0))), (2, 0, 1))

    def test_no_rules_and_rules_twice(self):
        self.same((Rules(0).pairs, Rules(0).least_row(), list(Rules(0).all_rows())), ((), (), [()]))
        self.same((Rules(1).least_row(), Rules(1).keeps_order((0,)), Rules(0).keeps_order([])), ((0,), True, True))
        twice = Rules(3, [(2, 0), (2, 0), (0, 1), (2, 1)])
        self.same((twice.pairs, twice.least_row()), (((2, 0), (2, 0), (0, 1), (2, 1)), (2, 0, 1)))
        self.same(list(twice.all_rows()), [(2, 0, 1)])

    def test_mixings(self):
        """[123]: the orders that keep the rules of rows are their mixings."""
        for rows in (((0, 2), (1, 3)), ((3, 1, 0), (), (2,)), ((4, 3, 2, 1, 0),), ((0,), (1,), (2,)), ()):
            many = sum(len(row) for row in rows)
            rules = Rules.rows(many, [list(row) for row in rows])
            pairs = tuple(pair for row in rows for pair in zip(row, row[1:]))
            self.same((rules.many, rules.pairs), (many, pairs))
            self.same(list(rules.all_rows()), sorted(mixed_rows(rows)))
        # Nothing is checked of the rows but their pairs.
        self.same(Rules.rows(3, [(0, 1), (0, 2), (1,)]).pairs, ((0, 1), (0, 2)))
        self.raises(BadRules(2), Rules.rows, 3, [(0, 1, 2), (2, 0)])
        self.raises(BadRules(1), Rules.rows, 3, [(0, 1, 3)])
        self.raises(BadNumber("many"), Rules.rows, -1, [(0, 1)])

    def test_wrong_rules(self):
        for value in (-1, *NO_INTEGERS):
            self.raises(BadNumber("many"), Rules, value, [3])
        for pair in ((0, 0), (0, 3), (-1, 0), (0, True), (None, 1), (0,), (0, 1, 2), "01", 7, None, {0: 1, 1: 0},
                     ([0], 1), (1.0, 0)):
            self.raises(BadRules(1), Rules, 3, [(0, 1), pair])
            self.raises(BadRules(1), Rules(3, [(0, 1)]).__add__, pair)
            self.raises(BadRules(1), Rules(3).least_row_with, [(0, 1), pair])
        self.raises(BadRules(2), Rules, 3, [(0, 1), (1, 2), (2, 0), (9, 9)])
        self.raises(BadRules(1), Rules, 3, [(0, 1), (1, 0)])
        with self.assertRaises(BadRules) as caught:
            Rules(3, [(0, 1), (1, 2)]) + (2, 0)
        self.same(caught.exception.place, 2)

    def test_one_rule_more(self):
        rules = Rules(4, [(0, 1)])
        more = rules + [1, 2]
        self.same((more.pairs, more.precedes(0, 2), rules.pairs, rules.precedes(0, 2)),
                  (((0, 1), (1, 2)), True, ((0, 1),), False))
        self.same((rules + (0, 1)).pairs, ((0, 1), (0, 1)))

    def test_equal_rules(self):
        self.same(Rules(3, [(0, 1), (1, 2)]) == Rules(3, [(1, 2), (0, 2), (0, 1), (0, 1)]), True)
        self.same(Rules(3, [(0, 1), (1, 2)]) == Rules(3, [(0, 1), (0, 2)]), False)
        self.same((Rules(3) == Rules(4), Rules(3) == Rules(3, []), Rules(0) == Rules(0)), (False, True, True))
        for value in (None, 3, (), ((0, 1),), LINE, "rules"):
            self.same((Rules(3) == value, value == Rules(3)), (False, False))
        self.same(Rules(3, [(0, 1)]) != Rules(3, [(0, 1), (0, 1)]), False)

    def test_things_and_rows(self):
        rules = Rules(3, [(2, 0)])
        for value in (-1, 3, *NO_INTEGERS):
            self.raises(BadThing(value), rules.precedes, value, 9)
            self.raises(BadThing(value), rules.precedes, 0, value)
            self.raises(BadOrder(1), rules.keeps_order, (0, value, value))
        for row, place in (((0, 1), 2), ((), 0), ([0, 1, 1], 2), ((0, 1, 2, 0), 3)):
            self.raises(BadOrder(place), rules.keeps_order, row)

    def test_limit(self):
        rules = Rules(3, [(0, 1)])
        self.same(list(rules.all_rows(limit=3)), [(0, 1, 2), (0, 2, 1), (2, 0, 1)])
        told = rules.all_rows(limit=1)
        self.same(next(told), (0, 1, 2))
        self.raises(TooMany(1), next, told)
        told = rules.all_rows(limit=2)
        self.same((next(told), next(told)), ((0, 1, 2), (0, 2, 1)))
        self.raises(TooMany(2), next, told)
        for value in (0, -1, *NO_INTEGERS):
            told = rules.all_rows(limit=value)
            self.raises(BadNumber("limit"), next, told)
        told = Rules(16).all_rows()
        found = [next(told) for _ in range(2000)]
        self.assertTrue(all(one < two for one, two in zip(found, found[1:])))
        self.raises(TooMany(2000), next, told)

    def test_keeps_no_list(self):
        pairs = [[0, 1]]
        rules = Rules(3, pairs)
        pairs[0][1] = 2
        pairs.append((9, 9))
        self.same((rules.pairs, rules.precedes(0, 1)), (((0, 1),), True))

    def test_sixteen_things(self):
        rules = Rules(16, [(x + 1, x) for x in range(15)])
        self.same((rules.least_row(), rules.precedes(15, 0), rules.precedes(0, 15)), (tuple(range(15, -1, -1)), True, False))


class EveryOrder(Case):
    def test_rows_that_some_order_has_bad(self):
        found = 0
        for web, pairs in cases():
            rows = rows_keeping(web.many, pairs)
            bad = sorted({row for kept in rows for row in bad_by_hand(web, kept)})
            rules = Rules(web.many, pairs)
            self.same(unsafe_row(web, rules), bad[0] if bad else None)
            if bad:
                found += 1
                least = [row for row in rows if bad[0] in bad_by_hand(web, row)][0]
                self.same(unsafe_order(web, rules), Order(web, least))
            else:
                self.same(unsafe_order(web, rules), None)
        self.assertGreater(found, 20)

    def test_kinds(self):
        kinds = (("passing", is_passing), ("gathered", is_gathered), ("middles first", is_middles_first))
        for web, pairs in cases():
            rules = Rules(web.many, pairs)
            orders = [Order(web, row) for row in rows_keeping(web.many, pairs)]
            for kind, fits in kinds:
                # A three alone, in all orders that keep the rules.
                wrong = [three for three in threes(web)
                         if not all(fits(only(order, three)) for order in orders)]
                self.same(unsafe_three(web, rules, kind), wrong[0] if wrong else None)
                self.same(unsafe_three(web, rules, kind) is None, all(fits(order) for order in orders))

    def test_twofold(self):
        for web, pairs in cases():
            rules = Rules(web.many, pairs)
            orders = [Order(web, row) for row in rows_keeping(web.many, pairs)]
            wrong = [row for row in rows_by_hand(web) if not all(is_twofold(only(order, row)) for order in orders)]
            self.same(unsafe_twofold(web, rules), wrong[0] if wrong else None)
            self.same(unsafe_twofold(web, rules) is None, all(is_twofold(order) for order in orders))

    def test_a_middle_that_precedes_the_end_next_to_it(self):
        for a_first in (True, False):
            rules = Rules(4, [(1, 0) if a_first else (2, 3)])
            self.same((unsafe_row(LINE, rules), unsafe_order(LINE, rules)), (None, None))

    def test_example(self):
        crossed = Rules(4, [(1, 3), (2, 0)])
        got = (unsafe_row(LINE, Rules(4)), unsafe_order(LINE, Rules(4)).row, unsafe_row(LINE, crossed),
               unsafe_three(LINE, crossed, "gathered"))
        self.same(got, ((0, 1, 2, 3), (0, 1, 3, 2), None, (0, 1, 2)))

    def test_edges(self):
        for many in (0, 1):
            rules = Rules(many)
            self.same((unsafe_row(Web(many), rules), unsafe_order(Web(many), rules), unsafe_twofold(Web(many), rules)),
                      (None, None, None))
            self.same([unsafe_three(Web(many), rules, kind) for kind in ("passing", "gathered", "middles first")], [None] * 3)

    def test_other_numbers_of_things(self):
        for many in (0, 3, 5, 16):
            rules = Rules(many)
            for call in (unsafe_row, unsafe_order, unsafe_twofold):
                self.raises(BadRules(min(many, 4)), call, LINE, rules)
            self.raises(BadRules(min(many, 4)), unsafe_three, LINE, rules, "no kind")

    def test_bad_kind(self):
        for kind in ("", "Passing", "middles", None, 3, True, ["passing"], ("passing",), {}, LINE):
            self.raises(BadNumber("kind"), unsafe_three, LINE, Rules(4), kind)


def only(order, things):
    """The order of the part of these things."""
    return order.part(sorted(things))


if __name__ == "__main__":
    unittest.main()
