"""perfectorders/webs.py: [1] webs, [5] webs beside one another and joined, [10] made webs."""

import unittest
from itertools import permutations, product

from perfectorders.errors import BadNumber, BadPart, BadRules, BadThing, BadWeb
from perfectorders.webs import Web
from tests.by_hand import Case, NO_INTEGERS, all_webs, clash, near, pairs_of, part_web, subsets


class Making(Case):
    def test_clashes_once_ascending_lesser_first(self):
        web = Web(4, [(3, 2), [1, 0], (0, 1), (2, 3), (0, 3)])
        self.same(web.many, 4)
        self.same(web.clashes, ((0, 1), (0, 3), (2, 3)))
        self.same(web.many_clashes, 3)
        self.same(Web(4, ([1, 0],)).clashes, ((0, 1),))

    def test_without_clashes(self):
        for web in (Web(3), Web(3, ()), Web(3, [])):
            self.same((web.many, web.clashes, web.many_clashes), (3, (), 0))

    def test_no_thing_and_one_thing(self):
        self.same((Web(0).many, Web(0).clashes, len(Web(0))), (0, (), 0))
        self.same((Web(1).near(0), Web(1).clash(0, 0), len(Web(1))), ((), False, 1))

    def test_bad_many(self):
        for many in (-1, *NO_INTEGERS):
            self.raises(BadNumber("many"), Web, many)
            self.raises(BadNumber("many"), Web, many, [None])

    def test_no_pair(self):
        for entry in (None, 0, "01", (0,), (0, 1, 2), [], {0, 1}, {0: 1, 1: 2}):
            self.raises(BadWeb(None, None), Web, 3, [(0, 1), entry, (0, 9)])

    def test_bad_pairs_as_they_were_passed(self):
        for thing in (3, -1, *NO_INTEGERS):
            self.raises(BadWeb(thing, 1), Web, 3, [(0, 1), (thing, 1)])
            self.raises(BadWeb(1, thing), Web, 3, [[0, 1], [1, thing]])
        self.raises(BadWeb(2, 2), Web, 3, [(2, 2)])
        self.raises(BadWeb(2, 1), Web, 2, [(2, 1)])
        self.raises(BadWeb(0, 0), Web, 0, [(0, 0)])

    def test_first_bad_entry(self):
        self.raises(BadWeb(0, 5), Web, 3, [(0, 1), (0, 5), (7, 7), None])
        self.raises(BadWeb(None, None), Web, 3, [(0, 1), None, (0, 5)])

    def test_does_not_keep_the_list(self):
        pairs = [[0, 1]]
        web = Web(3, pairs)
        pairs[0][1] = 2
        pairs.append((1, 2))
        self.same(web.clashes, ((0, 1),))


class Asking(Case):
    def test_clash_and_near(self):
        for web in all_webs(4):
            for x in range(web.many):
                self.same(web.near(x), near(web, x))
                self.same(web[x], near(web, x))
                for y in range(web.many):
                    self.same(web.clash(x, y), clash(web, x, y))

    def test_bad_things(self):
        web = Web.line(3)
        for thing in (3, -1, *NO_INTEGERS):
            self.raises(BadThing(thing), web.clash, thing, 7)
            self.raises(BadThing(thing), web.clash, 1, thing)
            self.raises(BadThing(thing), web.near, thing)
            self.raises(BadThing(thing), lambda: web[thing])
            self.raises(BadThing(thing), web.without, thing)
            self.raises(BadThing(thing), web.settled, thing, 7, True)
            self.raises(BadThing(thing), web.settled, 1, thing, True)

    def test_length_and_iteration(self):
        for web in all_webs(4):
            self.same(len(web), web.many)
            self.same(tuple(web), web.clashes)
            self.same([pair for pair in web], list(web.clashes))

    def test_in(self):
        for web in all_webs(4):
            for x, y in product(range(-1, web.many + 1), repeat=2):
                self.same((x, y) in web, clash(web, x, y))

    def test_in_is_false_for_any_other_value(self):
        web = Web.full(3)
        for value in ([0, 1], (0,), (0, 1, 2), (), 0, None, "01", {0, 1}, (0, True), (False, 1), (0, None),
                      ("0", "1"), (0, 1.0), ((0, 1),), ([0], 1), web, (0, 0)):
            self.same(value in web, False)

    def test_equality(self):
        self.same(Web(3, [(0, 1)]) == Web(3, [[1, 0], (0, 1)]), True)
        self.same(Web(3, [(0, 1)]) != Web(3, [[1, 0], (0, 1)]), False)
        self.same(Web(3, [(0, 1)]) == Web(4, [(0, 1)]), False)
        self.same(Web(3, [(0, 1)]) == Web(3, [(0, 2)]), False)
        for value in (3, None, ((0, 1),), "web 3: 0-1", [(0, 1)]):
            self.same(Web(3, [(0, 1)]) == value, False)
            self.same(Web(3, [(0, 1)]) != value, True)


class Changing(Case):
    def test_part_is_renumbered(self):
        for web in all_webs(4):
            for things in subsets(range(web.many)):
                self.same(web.part(things), part_web(web, things))
                self.same(web.part(list(things[::-1])), part_web(web, things))
        self.same(Web(5, [(1, 4), (4, 2), (0, 3)]).part([4, 1, 2]), Web(3, [(0, 2), (1, 2)]))

    def test_bad_part(self):
        web = Web.line(3)
        self.raises(BadPart(1), web.part, [0, 3, 0])
        self.raises(BadPart(2), web.part, [0, 1, 0])
        self.raises(BadPart(0), web.part, (True,))

    def test_without(self):
        for web in all_webs(4, 1):
            for x in range(web.many):
                self.same(web.without(x), part_web(web, [y for y in range(web.many) if y != x]))

    def test_with_thing(self):
        for web in all_webs(3):
            for things in subsets(range(web.many)):
                got = web.with_thing(list(things[::-1]))
                self.same(got.many, web.many + 1)
                self.same(got.near(web.many), things)
                self.same(got.without(web.many), web)
        self.raises(BadPart(1), Web.line(3).with_thing, [0, 3])
        self.raises(BadPart(1), Web.line(3).with_thing, (2, 2, True))
        self.raises(BadPart(0), Web(0).with_thing, (0,))

    def test_settled(self):
        for web in all_webs(4, 2):
            for x, y in permutations(range(web.many), 2):
                others = [pair for pair in web.clashes if set(pair) != {x, y}]
                self.same(web.settled(x, y, True), Web(web.many, [*others, (x, y)]))
                self.same(web.settled(x, y, False), Web(web.many, others))

    def test_settled_wants_unlike_things(self):
        self.raises(BadThing(1), Web.line(3).settled, 1, 1, True)
        self.raises(BadThing(9), Web.line(3).settled, 9, 9, True)

    def test_changes_nothing(self):
        web = Web.line(3)
        web.settled(0, 2, True)
        web.settled(0, 1, False)
        web.with_thing([0])
        web.without(0)
        self.same(web, Web(3, [(0, 1), (1, 2)]))


class Signs(Case):
    def test_contrary(self):
        for web in all_webs(4):
            gaps = [pair for pair in pairs_of(range(web.many)) if pair not in web.clashes]
            self.same(~web, Web(web.many, gaps))
            self.same(~~web, web)

    def test_beside(self):
        for web, other in product(all_webs(3), repeat=2):
            behind = [(x + web.many, y + web.many) for x, y in other.clashes]
            self.same(web + other, Web(web.many + other.many, [*web.clashes, *behind]))

    def test_joined(self):
        for web, other in product(all_webs(3), repeat=2):
            behind = [(x + web.many, y + web.many) for x, y in other.clashes]
            between = [(x, y + web.many) for x in range(web.many) for y in range(other.many)]
            self.same(web * other, Web(web.many + other.many, [*web.clashes, *behind, *between]))

    def test_no_web(self):
        for value in (None, 1, "web 1:", ((0, 1),), [], True):
            with self.assertRaises(TypeError):
                Web(1) + value
            with self.assertRaises(TypeError):
                Web(1) * value
            with self.assertRaises(TypeError):
                value + Web(1)
            with self.assertRaises(TypeError):
                value * Web(1)


class Made(Case):
    def test_ring(self):
        self.same(Web.ring(3), Web(3, [(0, 1), (1, 2), (2, 0)]))
        self.same(Web.ring(4), Web(4, [(0, 1), (1, 2), (2, 3), (3, 0)]))
        self.same(Web.ring(7).clashes, ((0, 1), (0, 6), (1, 2), (2, 3), (3, 4), (4, 5), (5, 6)))

    def test_line(self):
        self.same([Web.line(many).clashes for many in range(5)],
                  [(), (), ((0, 1),), ((0, 1), (1, 2)), ((0, 1), (1, 2), (2, 3))])
        self.same([Web.line(many).many for many in range(5)], [0, 1, 2, 3, 4])

    def test_full_and_bare(self):
        for many in range(6):
            self.same(Web.full(many), Web(many, pairs_of(range(many))))
            self.same(Web.bare(many), Web(many))

    def test_star(self):
        self.same(Web.star(0), Web(0))
        self.same(Web.star(1), Web(1))
        self.same(Web.star(4), Web(4, [(0, 1), (0, 2), (0, 3)]))

    def test_bad_many(self):
        for many in (-1, *NO_INTEGERS):
            for make in (Web.ring, Web.line, Web.full, Web.bare, Web.star):
                self.raises(BadNumber("many"), make, many)
        for many in range(3):
            self.raises(BadNumber("many"), Web.ring, many)

    def test_sixteen_things(self):
        self.same(Web.full(16).many_clashes, 120)
        self.same(Web.ring(16).many_clashes, 16)
        self.same((~Web.full(16)), Web.bare(16))


class Stretches(Case):
    def test_common_integers(self):
        ascending = [(first, last) for first in range(-1, 4) for last in range(first, 4)][:15]
        for rows in (ascending, ascending[::-1], ascending[1::2] + ascending[::2]):
            web = Web.stretches(rows)
            for x, y in pairs_of(range(len(rows))):
                common = set(range(rows[x][0], rows[x][1] + 1)) & set(range(rows[y][0], rows[y][1] + 1))
                self.same(web.clash(x, y), bool(common))

    def test_kinds_of_rows(self):
        self.same(Web.stretches([]), Web(0))
        self.same(Web.stretches(([0, 2], (2, 2), [3, 10 ** 12])), Web(3, [(0, 1)]))
        self.same(Web.stretches([(5, 5), (5, 5)]), Web(2, [(0, 1)]))

    def test_bad_rows(self):
        for row in (None, 3, (1,), (1, 2, 3), (2, 1), "12", {1, 2}, *((value, 1) for value in NO_INTEGERS),
                    *((1, value) for value in NO_INTEGERS)):
            self.raises(BadNumber("stretches"), Web.stretches, [(0, 1), row])


class Falling(Case):
    def test_lesser_thing_greater_number(self):
        for row in permutations((-3, 0, 5, 10 ** 12)):
            web = Web.falling(list(row))
            for x, y in pairs_of(range(4)):
                self.same(web.clash(x, y), row[x] > row[y])
        self.same(Web.falling(()), Web(0))

    def test_bad_numbers(self):
        self.raises(BadNumber("numbers"), Web.falling, [1, 2, 1])
        for value in NO_INTEGERS:
            self.raises(BadNumber("numbers"), Web.falling, [2, value, 5])


class Ruled(Case):
    def test_over_what_is_over(self):
        self.same(Web.ruled(4, [(0, 1), (1, 2)]), Web(4, [(0, 1), (1, 2), (0, 2)]))
        self.same(Web.ruled(4, [[1, 2], [0, 1]]), Web(4, [(0, 1), (1, 2), (0, 2)]))
        self.same(Web.ruled(5, [(3, 4), (0, 1), (1, 3)]), Web(5, [(0, 1), (0, 3), (0, 4), (1, 3), (1, 4), (3, 4)]))
        self.same(Web.ruled(3, [(2, 0), (1, 0)]), Web(3, [(0, 2), (0, 1)]))
        self.same(Web.ruled(0, []), Web(0))
        self.same(Web.ruled(2, ()), Web(2))

    def test_all_sets_of_rules(self):
        pairs = list(permutations(range(4), 2))
        for picked in subsets(range(len(pairs))):
            if len(picked) > 4:
                break
            over = set()
            bad = None
            for place, number in enumerate(picked):
                x, y = pairs[number]
                if (y, x) in over:
                    bad = place
                    break
                up = {x} | {z for z in range(4) if (z, x) in over}
                down = {y} | {z for z in range(4) if (y, z) in over}
                over |= {(u, v) for u in up for v in down}
            rules = [pairs[number] for number in picked]
            if bad is None:
                self.same(Web.ruled(4, rules), Web(4, list(over)))
            else:
                self.raises(BadRules(bad), Web.ruled, 4, rules)

    def test_a_pair_may_occur_more_than_once(self):
        self.same(Web.ruled(3, [(0, 1), (0, 1), [0, 1]]), Web(3, [(0, 1)]))

    def test_bad_rules(self):
        self.raises(BadRules(2), Web.ruled, 3, [(0, 1), (1, 2), (2, 0), None])
        self.raises(BadRules(1), Web.ruled, 3, [(0, 1), (1, 0)])
        self.raises(BadRules(0), Web.ruled, 3, [(1, 1)])
        for entry in (None, 3, (0,), (0, 1, 2), "01", {0, 1}, (0, 3), (-1, 0),
                      *((value, 2) for value in NO_INTEGERS), *((2, value) for value in NO_INTEGERS)):
            self.raises(BadRules(1), Web.ruled, 3, [(0, 1), entry, (1, 0)])

    def test_many_is_checked_first(self):
        for many in (-1, *NO_INTEGERS):
            self.raises(BadNumber("many"), Web.ruled, many, [None])


if __name__ == "__main__":
    unittest.main()
