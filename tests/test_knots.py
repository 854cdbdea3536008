"""perfectorders/knots.py: [2] knots and lots, [4] heaviest ones."""

import unittest
from itertools import islice

from perfectorders.errors import BadNeeds, BadPart
from perfectorders.knots import full_knots, full_lots, heaviest, heaviest_knots, heaviest_lots
from perfectorders.knots import is_knot, is_lot, knots_of, lots_of
from perfectorders.webs import Web
from tests import by_hand
from tests.by_hand import Case, all_needs, all_webs, full_sets, sets_of, some_webs, subsets, weight_of


class KnotsAndLots(Case):
    def test_is_knot_is_lot(self):
        for web in all_webs(4):
            for things in subsets(range(web.many)):
                self.same(is_knot(web, list(things[::-1])), by_hand.is_knot(web, things))
                self.same(is_lot(web, things), by_hand.is_lot(web, things))

    def test_all_of_all_parts(self):
        for web in [*all_webs(4), *some_webs(37)]:
            for part in subsets(range(web.many)):
                self.same(list(knots_of(web, part[::-1])), sets_of(web, part, by_hand.is_knot))
                self.same(list(lots_of(web, list(part))), sets_of(web, part, by_hand.is_lot))

    def test_none_is_all_things(self):
        for web in all_webs(5):
            self.same(list(knots_of(web)), sets_of(web, range(web.many), by_hand.is_knot))
            self.same(list(lots_of(web, None)), sets_of(web, range(web.many), by_hand.is_lot))

    def test_no_limit(self):
        self.same(len(list(knots_of(Web.full(12)))), 4096)
        self.same(len(list(lots_of(Web.bare(12)))), 4096)
        self.same(list(islice(knots_of(Web.full(16)), 3)), [(), (0,), (0, 1)])

    def test_empty_part(self):
        self.same((list(knots_of(Web(0))), list(lots_of(Web(3), ()))), ([()], [()]))
        self.same((full_knots(Web(0)), full_lots(Web(0)), full_knots(Web(2), ()), full_lots(Web(2), [])),
                  (((),), ((),), ((),), ((),)))

    def test_full_ones(self):
        for web in [*all_webs(4), *some_webs(37)]:
            for part in subsets(range(web.many)):
                self.same(full_knots(web, list(part)), full_sets(web, part, by_hand.is_knot))
                self.same(full_lots(web, part[::-1]), full_sets(web, part, by_hand.is_lot))
        for web in all_webs(5):
            self.same(full_knots(web), full_sets(web, range(web.many), by_hand.is_knot))
            self.same(full_lots(web), full_sets(web, range(web.many), by_hand.is_lot))

    def test_bad_parts(self):
        web = Web.line(3)
        for call in (is_knot, is_lot, full_knots, full_lots):
            self.raises(BadPart(1), call, web, [2, 3, 2])
            self.raises(BadPart(2), call, web, (0, 2, 2))
            self.raises(BadPart(0), call, web, (False,))
        for call in (knots_of, lots_of):
            self.raises(BadPart(1), lambda: next(call(web, [2, 3, 2])))
            self.raises(BadPart(2), lambda: next(call(web, (0, 2, 2))))


class Heaviest(Case):
    def test_the_document_s_example(self):
        web = Web(5, [(0, 1), (2, 0), (1, 2), (2, 3), (4, 3)])
        needs = (2, 1, 0, 4, 3)
        self.same([full_knots(web), heaviest(web, needs), heaviest(web, needs, (2,)), heaviest(web, None, (0, 3))],
                  [((0, 1, 2), (2, 3), (3, 4)), 7, 4, None])

    def test_all_sets(self):
        for web in all_webs(3):
            for needs in all_needs(web.many):
                for things in subsets(range(web.many)):
                    self.same(heaviest(web, list(needs), list(things[::-1])),
                              by_hand.heaviest_weight(web, needs, things))
        for web in some_webs(37):
            for things in subsets(range(5)):
                self.same(heaviest(web, (3, 0, 10 ** 12, 1, 2), things),
                          by_hand.heaviest_weight(web, (3, 0, 10 ** 12, 1, 2), things))
                self.same(heaviest(web, None, things), by_hand.heaviest_weight(web, (1,) * 5, things))

    def test_without_things(self):
        self.same((heaviest(Web(0)), heaviest(Web(0), []), heaviest(Web(1)), heaviest(Web(1), [0])), (0, 0, 1, 0))

    def test_full_ones_of_the_needy_things(self):
        for web in all_webs(4):
            for needs in all_needs(web.many, 2):
                needy = [thing for thing in range(web.many) if needs[thing] > 0]
                for call, good in ((heaviest_knots, by_hand.is_knot), (heaviest_lots, by_hand.is_lot)):
                    full = full_sets(web, needy, good)
                    most = max(weight_of(needs, one) for one in full)
                    self.same(call(web, needs), tuple(one for one in full if weight_of(needs, one) == most))

    def test_none_is_one_everywhere(self):
        for web in all_webs(4):
            self.same(heaviest_knots(web), heaviest_knots(web, [1] * web.many))
            self.same(heaviest_lots(web, None), heaviest_lots(web, [1] * web.many))

    def test_no_thing_needy(self):
        for web in (Web(0), Web(1), Web.line(3)):
            self.same(heaviest_knots(web, (0,) * web.many), ((),))
            self.same(heaviest_lots(web, [0] * web.many), ((),))

    def test_great_needs(self):
        self.same(heaviest_knots(Web.line(3), (10 ** 12, 1, 10 ** 12)), ((0, 1), (1, 2)))
        self.same(heaviest_lots(Web.line(3), (10 ** 12, 1, 10 ** 12)), ((0, 2),))

    def test_errors_in_order(self):
        web = Web.line(3)
        for call in (heaviest, heaviest_knots, heaviest_lots):
            self.raises(BadNeeds(1), call, web, (1, -1, True))
            self.raises(BadNeeds(2), call, web, (1, 1))
            self.raises(BadNeeds(3), call, web, (1, 1, 1, 1))
        self.raises(BadNeeds(0), heaviest, web, (True, 1, 1), [7])
        self.raises(BadPart(1), heaviest, web, None, [0, 3])
        self.raises(BadPart(1), heaviest, web, (1, 1, 1), (2, 2))


if __name__ == "__main__":
    unittest.main()
