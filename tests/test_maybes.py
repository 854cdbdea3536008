"""perfectorders/maybes.py: [128] maybe webs."""

import unittest
from itertools import islice, permutations, product

from perfectorders.errors import BadNumber, BadThing, BadWeb, NoneSuch, TooMany
from perfectorders.maybes import MaybeWeb, possible_rows
from perfectorders.webs import Web
from tests.by_hand import Case, NO_INTEGERS, all_webs, clash, pairs_of, rows_by_hand, sides, some_webs, subsets


def all_maybe_webs(many, step=1):
    """Each step-th of the tuples (maybe web, sure clashes, maybes) of so many things."""
    pairs = pairs_of(range(many))
    found = []
    for kinds in list(product("gcm", repeat=len(pairs)))[::step]:
        sure = tuple(pair for pair, kind in zip(pairs, kinds) if kind == "c")
        maybe = tuple(pair for pair, kind in zip(pairs, kinds) if kind == "m")
        found.append((MaybeWeb(many, sure, maybe), sure, maybe))
    return found


def cases():
    return [*all_maybe_webs(0), *all_maybe_webs(1), *all_maybe_webs(2), *all_maybe_webs(3), *all_maybe_webs(4, 7),
            *all_maybe_webs(5, 1999)]


def worlds_by_hand(many, sure, maybe):
    """All worlds, in ascending order of the tuples of maybes that clash."""
    return [Web(many, sure + chosen) for chosen in sorted(subsets(maybe))]


def told(maybe_web):
    return (maybe_web.many, maybe_web.sure, maybe_web.maybe)


class MaybeWebs(Case):
    def test_pairs(self):
        for maybe_web, sure, maybe in cases():
            many = maybe_web.many
            self.same(told(maybe_web), (many, sure, maybe))
            for x, y in product(range(many), repeat=2):
                pair = sides(x, y)
                self.same(maybe_web.can_clash(x, y), pair in sure or pair in maybe)
                self.same(maybe_web.can_be_gap(x, y), x != y and pair not in sure)

    def test_either_way_round_and_twice(self):
        maybe_web = MaybeWeb(4, [[1, 0], (0, 1)], [(3, 2), [2, 3], (0, 2)])
        self.same(told(maybe_web), (4, ((0, 1),), ((0, 2), (2, 3))))
        self.same(told(MaybeWeb(2)), (2, (), ()))

    def test_worlds(self):
        for maybe_web, sure, maybe in cases():
            worlds = worlds_by_hand(maybe_web.many, sure, maybe)
            self.same(list(maybe_web.worlds(limit=2000)), worlds)
            self.same((maybe_web.lowest(), maybe_web.highest()), (Web(maybe_web.many, sure), Web(maybe_web.many, sure + maybe)))
            if len(worlds) < 9:
                for chosen in subsets(maybe):
                    turned = [list(pair[::-1]) for pair in chosen]
                    self.same(maybe_web(turned + turned[:1]), Web(maybe_web.many, sure + chosen))

    def test_is_world(self):
        for many in range(4):
            webs = list(all_webs(many + 1, max(many - 1, 0)))
            for maybe_web, sure, maybe in all_maybe_webs(many):
                worlds = worlds_by_hand(many, sure, maybe)
                for web in webs:
                    self.same(maybe_web.is_world(web), web in worlds)

    def test_possible_rows(self):
        for maybe_web, sure, maybe in cases():
            rows = set()
            for web in worlds_by_hand(maybe_web.many, sure, maybe):
                rows |= set(rows_by_hand(web))
            self.same(possible_rows(maybe_web), tuple(sorted(rows)))

    def test_settled_pairs(self):
        for maybe_web, sure, maybe in cases()[::3]:
            for x, y in permutations(range(maybe_web.many), 2):
                pair = sides(x, y)
                if pair not in maybe:
                    self.raises(NoneSuch("maybe"), maybe_web.settle_pair, x, y, True)
                    continue
                left = tuple(other for other in maybe if other != pair)
                self.same(told(maybe_web.settle_pair(x, y, True)), (maybe_web.many, tuple(sorted(sure + (pair,))), left))
                self.same(told(maybe_web.settle_pair(x, y, False)), (maybe_web.many, sure, left))
            self.same(told(maybe_web), (maybe_web.many, sure, maybe))

    def test_below_and_above(self):
        for web in [*all_webs(4), *some_webs(101)]:
            gaps = tuple(pair for pair in pairs_of(range(web.many)) if not clash(web, *pair))
            self.same(told(MaybeWeb.below(web)), (web.many, (), web.clashes))
            self.same(told(MaybeWeb.above(web)), (web.many, web.clashes, gaps))

    def test_limit(self):
        maybe_web = MaybeWeb(3, [(0, 1)], [(1, 2), (0, 2)])
        whole = list(maybe_web.worlds())
        self.same(list(maybe_web.worlds(limit=4)), whole)
        worlds = maybe_web.worlds(limit=1)
        self.same(next(worlds), whole[0])
        self.raises(TooMany(1), next, worlds)
        worlds = maybe_web.worlds(limit=3)
        self.same(list(islice(worlds, 3)), whole[:3])
        self.raises(TooMany(3), next, worlds)
        for value in (0, -1, *NO_INTEGERS):
            worlds = maybe_web.worlds(limit=value)
            self.raises(BadNumber("limit"), next, worlds)
        worlds = MaybeWeb.below(Web.full(16)).worlds()
        found = list(islice(worlds, 500))
        self.same((found[0], found[1].clashes, found[2].clashes), (Web(16), ((0, 1),), ((0, 1), (0, 2))))
        self.raises(TooMany(500), next, worlds)
        self.same(len(list(MaybeWeb.below(Web.ring(8)).worlds())), 256)

    def test_edges(self):
        for many in (0, 1):
            maybe_web = MaybeWeb(many)
            self.same((list(maybe_web.worlds()), possible_rows(maybe_web), maybe_web.is_world(Web(many)), maybe_web([])),
                      ([Web(many)], (), True, Web(many)))
        self.same(MaybeWeb(1).can_be_gap(0, 0), False)

    def test_sixteen_things(self):
        rows = possible_rows(MaybeWeb.below(Web.full(16)))
        self.same((len(rows), rows[0], rows[-1]), (16 * 15 * 14 * 13 // 2, (0, 1, 2, 3), (14, 13, 12, 15)))

    def test_keeps_no_list(self):
        sure, maybe = [[0, 1]], [[1, 2]]
        maybe_web = MaybeWeb(3, sure, maybe)
        sure[0][1] = 2
        maybe.append((0, 2))
        self.same(told(maybe_web), (3, ((0, 1),), ((1, 2),)))


class Wrong(Case):
    def test_many(self):
        for value in (-1, *NO_INTEGERS):
            self.raises(BadNumber("many"), MaybeWeb, value, [9], [9])

    def test_pairs(self):
        for pair in (None, 3, "01", (0,), (0, 1, 2), {0: 1, 1: 2}):
            self.raises(BadWeb(None, None), MaybeWeb, 3, [(0, 1), pair], [9])
            self.raises(BadWeb(None, None), MaybeWeb, 3, [(0, 1)], [(1, 2), pair, (0, 1)])
            self.raises(BadWeb(None, None), MaybeWeb(3, [(0, 1)], [(1, 2)]), [(1, 2), pair])
        for x, y in ((0, 0), (0, 3), (-1, 0), (True, 0), (0, None), ("0", 1), (1.0, 2), ([0], 1)):
            self.raises(BadWeb(x, y), MaybeWeb, 3, [(0, 1), [x, y]], [9])
            self.raises(BadWeb(x, y), MaybeWeb, 3, [(0, 1)], [(1, 2), (x, y), (1, 0)])
            self.raises(BadWeb(x, y), MaybeWeb(3, [(0, 1)], [(1, 2)]), [(0, 1), (x, y)])

    def test_sure_clashes_among_the_maybes(self):
        self.raises(BadWeb(1, 0), MaybeWeb, 3, [(0, 1)], [(1, 2), (1, 0), (9, 9)])
        self.raises(BadWeb(0, 1), MaybeWeb, 3, [(0, 1)], [[0, 1], None])
        self.raises(BadWeb(None, None), MaybeWeb, 3, [(0, 1)], [None, (0, 1)])

    def test_calls(self):
        maybe_web = MaybeWeb(3, [(0, 1)], [(1, 2)])
        for pair in ((0, 1), (1, 0), (0, 2)):
            self.raises(NoneSuch("maybe"), maybe_web, [(1, 2), pair])
        self.raises(BadWeb(2, 2), maybe_web, [(0, 1), (2, 2)])

    def test_things(self):
        maybe_web = MaybeWeb(3, [(0, 1)], [(1, 2)])
        for value in (-1, 3, *NO_INTEGERS):
            for call in (maybe_web.can_clash, maybe_web.can_be_gap, lambda x, y: maybe_web.settle_pair(x, y, True)):
                self.raises(BadThing(value), call, value, 9)
                self.raises(BadThing(value), call, 0, value)
        for x in range(3):
            self.raises(NoneSuch("maybe"), maybe_web.settle_pair, x, x, False)


if __name__ == "__main__":
    unittest.main()
