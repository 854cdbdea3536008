"""perfectorders/makers.py: [10] the doubled web, [23] mixings."""

import unittest
from itertools import islice, permutations

from perfectorders.errors import BadNumber, TooMany
from perfectorders.makers import doubled, mixed_rows
from perfectorders.webs import Web
from tests.by_hand import Case, NO_INTEGERS


class Doubled(Case):
    def test_levels(self):
        self.same(doubled(1), (Web(1), (0,)))
        self.same(doubled(2), (Web(2, [(0, 1)]), (0, 1)))
        self.same(doubled(3), (Web(4, [(0, 1), (2, 3), (1, 3)]), (0, 1, 2, 3)))
        self.same(doubled(4), (Web(8, [(0, 1), (2, 3), (1, 3), (4, 5), (6, 7), (5, 7), (3, 7)]), tuple(range(8))))

    def test_two_copies_and_one_clash_more(self):
        for levels in range(1, 5):
            web, row = doubled(levels)
            twice, _ = doubled(levels + 1)
            self.same(twice, (web + web).settled(web.many - 1, 2 * web.many - 1, True))

    def test_bad_levels(self):
        for levels in (0, -1, *NO_INTEGERS):
            self.raises(BadNumber("levels"), doubled, levels)


def mixings_by_hand(rows):
    """All mixings, by going through all rows of the numbers of the rows, ascending."""
    numbers = [number for number, row in enumerate(rows) for _ in row]
    found = []
    for picked in sorted(set(permutations(numbers))):
        left = [list(row) for row in rows]
        found.append(tuple(left[number].pop(0) for number in picked))
    return found


class Mixings(Case):
    def test_all_mixings(self):
        for rows in ([(0, 1), (2,)], [[0, 1], [2, 3]], [(5, 3, 4)], [(), (0,), (), (2, 1)], [(0,), (1,), (2,)],
                     [(2, 0), (1,), (3, 4)], ((7,), (6, 5, 4))):
            self.same(list(mixed_rows(rows)), mixings_by_hand(rows))

    def test_earlier_rows_come_first(self):
        self.same(list(mixed_rows([(5, 3), (4,)])), [(5, 3, 4), (5, 4, 3), (4, 5, 3)])
        self.same(list(mixed_rows([["b"], ["a", "c"]])), [("b", "a", "c"), ("a", "b", "c"), ("a", "c", "b")])

    def test_no_rows(self):
        for rows in ([], (), [[]], [(), ()]):
            self.same(list(mixed_rows(rows)), [()])
            self.same(list(mixed_rows(rows, limit=1)), [()])

    def test_limit(self):
        rows = [(0, 1), (2, 3)]
        self.same(list(mixed_rows(rows, limit=6)), mixings_by_hand(rows))
        told = mixed_rows(rows, limit=5)
        self.same(list(islice(told, 5)), mixings_by_hand(rows)[:5])
        self.raises(TooMany(5), next, told)

    def test_limit_is_500_by_default(self):
        told = mixed_rows([range(8), range(8, 16)])
        self.same(len(list(islice(told, 500))), 500)
        self.raises(TooMany(500), next, told)
        # 462 mixings are below the limit.
        self.same(len(list(mixed_rows([range(5), range(5, 11)]))), 462)

    def test_bad_limit_when_the_first_result_is_asked_for(self):
        for limit in (0, -1, *NO_INTEGERS):
            told = mixed_rows([(0,)], limit=limit)
            self.raises(BadNumber("limit"), next, told)


if __name__ == "__main__":
    unittest.main()
