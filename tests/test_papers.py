"""perfectorders/papers.py: [133] clashes left out or put in, [134] papers."""

import unittest
from itertools import permutations
from random import Random

from perfectorders.errors import BadOrder, BadWeb, NoneSuch, TooMany
from perfectorders.maybes import MaybeWeb
from perfectorders.papers import Papers, safe_above, safe_below
from perfectorders.webs import Web
from tests.by_hand import (Case, NO_INTEGERS, all_webs, bad_by_hand, clash, pairs_of, some_webs, subsets)


def some_maybe_web(many, number, most=6):
    chance = Random(number)
    kinds = {pair: chance.choice("gcmm"[number % 3:]) for pair in pairs_of(range(many))}
    sure = tuple(pair for pair, kind in kinds.items() if kind == "c")
    maybe = tuple(pair for pair, kind in kinds.items() if kind == "m")[:most]
    return MaybeWeb(many, sure, maybe)


def worlds_of(maybe_web):
    return [Web(maybe_web.many, maybe_web.sure + chosen) for chosen in subsets(maybe_web.maybe)]


def cases():
    for many in range(4):
        yield MaybeWeb.below(Web.full(many)), tuple(range(many))
    for number in range(60):
        chance = Random(number)
        many = 4 + number % 2
        yield some_maybe_web(many, number), tuple(chance.sample(range(many), many))


def alike(web, other, pairs):
    return all(clash(web, *pair) == clash(other, *pair) for pair in pairs)


def papers_right(maybe_web, row, world):
    """All papers that the row is right in the world, straight from the definition."""
    bad = [web for web in worlds_of(maybe_web) if bad_by_hand(web, row)]
    return [pairs for pairs in subsets(maybe_web.maybe) if not any(alike(web, world, pairs) for web in bad)]


def papers_wrong(maybe_web, row, world):
    needed = [{pair for pair in pairs_of(four) if pair in maybe_web.maybe} for four in bad_by_hand(world, row)]
    return [pairs for pairs in subsets(maybe_web.maybe) if any(one <= set(pairs) for one in needed)]


def least(papers):
    fewest = min((len(paper) for paper in papers), default=0)
    return tuple(sorted(paper for paper in papers if len(paper) == fewest))


class AllPapers(Case):
    def test_all_sets_of_maybes(self):
        kinds = set()
        for maybe_web, row in cases():
            papers = Papers(list(row), maybe_web)
            self.same(papers.row, row)
            self.assertIs(papers.maybe_web, maybe_web)
            for world in worlds_of(maybe_web)[::3]:
                right, wrong = papers_right(maybe_web, row, world), papers_wrong(maybe_web, row, world)
                kinds.add((bool(right), bool(wrong)))
                self.same((papers.least_right(world), papers.least_wrong(world)), (least(right), least(wrong)))
                for pairs in subsets(maybe_web.maybe)[::3]:
                    turned = [list(pair[::-1]) for pair in pairs] + list(pairs[:1])
                    self.same(papers.is_paper_right(world, turned), pairs in right)
                    self.same(papers.is_paper_wrong(world, turned), pairs in wrong)
        # There is a paper of the one sort or of the other, never of both.
        self.assertEqual(kinds, {(True, False), (False, True)})

    def test_a_paper_that_it_is_wrong(self):
        """The row is then wrong in all worlds alike in these maybes."""
        for maybe_web, row in cases():
            papers = Papers(row, maybe_web)
            for world in worlds_of(maybe_web)[::5]:
                for paper in papers.least_wrong(world):
                    others = [web for web in worlds_of(maybe_web) if alike(web, world, paper)]
                    self.assertTrue(all(bad_by_hand(web, row) for web in others))

    def test_example(self):
        papers = Papers((0, 3, 1, 2), MaybeWeb(4, [(0, 1), (2, 3)], [(0, 3), (1, 2)]))
        world = papers.maybe_web([])
        self.same((papers.least_right(world), papers.least_wrong(world), papers.least_wrong(papers.maybe_web([(1, 2)]))),
                  ((((1, 2),),), (), (((0, 3), (1, 2)),)))

    def test_the_empty_paper(self):
        sure = Papers((0, 1, 2, 3), MaybeWeb(4, [(0, 1), (1, 2), (2, 3)], [(0, 3)]))
        for world in worlds_of(sure.maybe_web):
            self.same((sure.least_right(world), sure.least_wrong(world), sure.is_paper_right(world, ())), (((),), (), True))
        line = Web.line(4)
        wrong = Papers((0, 3, 1, 2), MaybeWeb(4, line.clashes))
        self.same((wrong.least_right(line), wrong.least_wrong(line), wrong.is_paper_wrong(line, []),
                   wrong.is_paper_right(line, [])), ((), ((),), True, False))

    def test_edges(self):
        for many in (0, 1):
            papers = Papers(list(range(many)), MaybeWeb(many))
            self.same((papers.row, papers.least_right(Web(many)), papers.least_wrong(Web(many))),
                      (tuple(range(many)), ((),), ()))

    def test_fifteen_and_sixteen_maybes(self):
        maybe_web = MaybeWeb.below(Web.full(6))
        papers = Papers((0, 3, 1, 2, 4, 5), maybe_web)
        for world in (maybe_web.lowest(), maybe_web.highest(), Web.ring(6)):
            found = papers.least_right(world) + papers.least_wrong(world)
            self.assertTrue(found)
            for pairs in found:
                self.assertTrue(papers.is_paper_right(world, pairs) or papers.is_paper_wrong(world, pairs))
        more = MaybeWeb(7, (), [*pairs_of(range(6)), (0, 6)])
        papers = Papers(tuple(range(7)), more)
        for call in (papers.least_right, papers.least_wrong):
            self.raises(TooMany(15), call, more.lowest())
            self.raises(NoneSuch("world"), call, Web(6))
        self.same(papers.is_paper_right(more.lowest(), more.maybe), True)


class Wrong(Case):
    def test_rows(self):
        for row, place in (((0, 1, 2), 3), ([0, 1, 1, 2], 2), ((0, 1, 2, 4), 3), ((0, 1, 2, 3, 0), 4), ((), 0)):
            self.raises(BadOrder(place), Papers, row, MaybeWeb(4))
            for call in (safe_below, safe_above):
                self.raises(BadOrder(place), call, Web.line(4), row)
        for value in NO_INTEGERS:
            self.raises(BadOrder(1), Papers, (0, value, 2, 3), MaybeWeb(4))

    def test_pairs(self):
        papers = Papers((0, 1, 2, 3), MaybeWeb(4, [(0, 1)], [(1, 2), (2, 3)]))
        world = Web(4, [(0, 1)])
        for call in (papers.is_paper_right, papers.is_paper_wrong):
            for pair in (None, 3, "12", (1,), (1, 2, 3)):
                self.raises(BadWeb(None, None), call, Web(9), [(1, 2), pair])
            for x, y in ((0, 0), (1, 4), (True, 2), (-1, 2), (None, 1)):
                self.raises(BadWeb(x, y), call, Web(9), [(0, 1), [x, y]])
            for web in (Web(4), Web(5, [(0, 1)]), Web(4, [(0, 1), (0, 2)])):
                self.raises(NoneSuch("world"), call, web, [(0, 1)])
            for pair in ((0, 1), (1, 0), (0, 2)):
                self.raises(NoneSuch("maybe"), call, world, [(1, 2), pair])

    def test_no_world(self):
        papers = Papers((0, 1, 2, 3), MaybeWeb(4, [(0, 1)], [(1, 2), (2, 3)]))
        for call in (papers.least_right, papers.least_wrong):
            for web in (Web(4), Web(3), Web(5, [(0, 1)]), Web(4, [(0, 1), (0, 2)])):
                self.raises(NoneSuch("world"), call, web)


class LeftOutOrPutIn(Case):
    def by_hand(self, web, row, fits):
        found = [(a, b, c, d) for a, b, c, d in permutations(range(web.many), 4)
                 if fits(web, a, b, c, d) and row.index(a) < row.index(b) and row.index(d) < row.index(c)]
        return min(found) if found else None

    def below(self, web, a, b, c, d):
        return clash(web, a, b) and clash(web, b, c) and clash(web, c, d)

    def above(self, web, a, b, c, d):
        return not clash(web, a, c) and not clash(web, b, d) and not clash(web, a, d)

    def test_least_tuple_and_all_webs(self):
        for number, web in enumerate([*all_webs(4), *some_webs(23)]):
            for row in list(permutations(range(web.many)))[number % 5::11]:
                self.same(safe_below(web, list(row)), self.by_hand(web, row, self.below))
                self.same(safe_above(web, row), self.by_hand(web, row, self.above))
                if web.many < 5 or number % 9 == 0:
                    webs = [Web(web.many, left) for left in subsets(web.clashes)]
                    self.same(safe_below(web, row) is None, not any(bad_by_hand(other, row) for other in webs))
                    gaps = [pair for pair in pairs_of(range(web.many)) if pair not in web.clashes]
                    webs = [Web(web.many, [*web.clashes, *more]) for more in subsets(gaps)]
                    self.same(safe_above(web, row) is None, not any(bad_by_hand(other, row) for other in webs))

    def test_edges(self):
        for web in (Web(0), Web(1), Web(3), Web.full(3)):
            row = tuple(range(web.many))
            self.same((safe_below(web, row), safe_above(web, row)), (None, None))
        self.same((safe_below(Web.bare(16), tuple(range(16))), safe_above(Web.full(16), tuple(range(16)))), (None, None))
        self.same(safe_below(Web.full(4), (0, 1, 2, 3)), (0, 1, 3, 2))
        self.same(safe_above(Web.bare(4), (3, 2, 1, 0)), (1, 0, 2, 3))


if __name__ == "__main__":
    unittest.main()
