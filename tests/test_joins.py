"""perfectorders/joins.py: [5] webs made of webs."""

import unittest
from itertools import product as rows_of

from perfectorders.errors import BadNumber, BadThing, NoneSuch
from perfectorders.joins import beside, joined, made_one, number_of, product, put_in, thing_of
from perfectorders.texts import web_text
from perfectorders.webs import Web
from tests.by_hand import Case, NO_INTEGERS, all_webs, clash, pairs_of

SMALL = (Web(0), Web(1), Web.full(2), Web.bare(2), Web.line(3))


def numbering(webs):
    """The pairs (v, h) in the numbering of point 5."""
    return [(v, h) for v, web in enumerate(webs) for h in range(web.many)]


def web_by(webs, between):
    """The web of the webs in which things of the webs u and v clash if between(u, v)."""
    things = numbering(webs)
    pairs = []
    for x, y in pairs_of(range(len(things))):
        (u, g), (v, h) = things[x], things[y]
        if clash(webs[u], g, h) if u == v else between(u, v):
            pairs.append((x, y))
    return Web(len(things), pairs)


class Whole(Case):
    def test_beside_and_joined(self):
        for webs in [*rows_of(SMALL, repeat=1), *rows_of(SMALL, repeat=2), *rows_of(SMALL, repeat=3)]:
            self.same(beside(*webs), web_by(webs, lambda u, v: False))
            self.same(joined(*webs), web_by(webs, lambda u, v: True))

    def test_eight_webs(self):
        self.same(beside(*[Web.full(2)] * 8), web_by([Web.full(2)] * 8, lambda u, v: False))
        self.same(joined(*[Web.bare(2)] * 8), web_by([Web.bare(2)] * 8, lambda u, v: True))

    def test_put_in(self):
        for outer in all_webs(3):
            for webs in rows_of(SMALL, repeat=outer.many):
                expected = web_by(webs, lambda u, v: clash(outer, u, v))
                self.same(put_in(outer, list(webs)), expected)
                self.same(put_in(outer, webs), expected)

    def test_the_document_s_example(self):
        self.same(web_text(put_in(Web.line(3), [Web.bare(2), Web(1), Web.full(2)])), "web 5: 0-2 1-2 2-3 2-4 3-4")

    def test_as_many_webs_as_things(self):
        self.raises(BadNumber("webs"), put_in, Web.line(2), [Web(1)])
        self.raises(BadNumber("webs"), put_in, Web.line(2), (Web(1), Web(1), Web(0)))
        self.raises(BadNumber("webs"), put_in, Web(0), [Web(0)])
        self.same(put_in(Web(0), []), Web(0))


class Numbers(Case):
    def test_both_ways(self):
        for webs in rows_of(SMALL, repeat=3):
            for thing, (v, h) in enumerate(numbering(webs)):
                self.same(thing_of(list(webs), thing), (v, h))
                self.same(number_of(webs, v, h), thing)

    def test_thing_of_errors(self):
        webs = [Web(2), Web(0), Web(1)]
        for thing in (-1, *NO_INTEGERS):
            self.raises(BadNumber("thing"), thing_of, webs, thing)
            self.raises(BadNumber("thing"), thing_of, [], thing)
        self.raises(NoneSuch("thing"), thing_of, webs, 3)
        self.raises(NoneSuch("thing"), thing_of, webs, 10 ** 12)
        self.raises(NoneSuch("thing"), thing_of, (), 0)

    def test_number_of_errors(self):
        webs = (Web(2), Web(0), Web(1))
        for thing in (3, -1, *NO_INTEGERS):
            self.raises(BadThing(thing), number_of, webs, thing, 7)
            self.raises(BadThing(thing), number_of, webs, 0, thing)
        self.raises(BadThing(0), number_of, webs, 1, 0)
        self.raises(BadThing(2), number_of, webs, 0, 2)
        self.raises(BadThing(1), number_of, webs, 2, 1)
        self.raises(BadThing(0), number_of, [], 0, 0)


class Product(Case):
    def test_pairs(self):
        for web, other in rows_of(list(all_webs(3)), repeat=2):
            things = [(x, y) for x in range(web.many) for y in range(other.many)]
            pairs = []
            for one, two in pairs_of(range(len(things))):
                (x, y), (z, u) = things[one], things[two]
                if (y == u and clash(web, x, z)) or (x == z and clash(other, y, u)):
                    pairs.append((one, two))
            self.same(product(web, other), Web(web.many * other.many, pairs))

    def test_numbers_of_pairs(self):
        got = product(Web.line(2), Web.line(3))
        self.same(got.clashes, ((0, 1), (0, 3), (1, 2), (1, 4), (2, 5), (3, 4), (4, 5)))


class MadeOne(Case):
    def test_all_pairs(self):
        for web in all_webs(5, 2):
            for x, y in pairs_of(range(web.many)):
                kept = [thing for thing in range(web.many) if thing != y]
                pairs = []
                for u, v in pairs_of(kept):
                    together = clash(web, u, v) or (u == x and clash(web, y, v)) or (v == x and clash(web, u, y))
                    if together:
                        pairs.append((kept.index(u), kept.index(v)))
                expected = Web(web.many - 1, pairs)
                self.same(made_one(web, x, y), expected)
                self.same(made_one(web, y, x), expected)

    def test_errors(self):
        web = Web.line(3)
        for thing in (3, -1, *NO_INTEGERS):
            self.raises(BadThing(thing), made_one, web, thing, 9)
            self.raises(BadThing(thing), made_one, web, 0, thing)
        self.raises(BadThing(1), made_one, web, 1, 1)


if __name__ == "__main__":
    unittest.main()
