"""perfectorders/amounts.py, and [4] on needs and weights."""

import unittest

from perfectorders.amounts import check_needs, check_number, check_thing, check_things, is_int, weight
from perfectorders.errors import BadNeeds, BadNumber, BadPart, BadThing
from tests.by_hand import Case, NO_INTEGERS


class Numbers(Case):
    def test_is_int(self):
        for value in (0, 1, -1, 10 ** 30):
            self.same(is_int(value), True)
        for value in (*NO_INTEGERS, object(), {}, 0.0, b"1"):
            self.same(is_int(value), False)

    def test_check_number(self):
        self.same(check_number(0, "many"), 0)
        self.same(check_number(10 ** 12, "many"), 10 ** 12)
        self.same(check_number(3, "many", 3), 3)
        self.same(check_number(-2, "many", -2), -2)
        self.same(check_number(5, "many", least=4), 5)

    def test_bad_numbers(self):
        self.raises(BadNumber("many"), check_number, -1, "many")
        self.raises(BadNumber("limit"), check_number, 0, "limit", 1)
        self.raises(BadNumber("limit"), check_number, -3, "limit", -2)
        for value in NO_INTEGERS:
            self.raises(BadNumber("room"), check_number, value, "room")


class Things(Case):
    def test_check_thing(self):
        for thing in range(3):
            self.same(check_thing(3, thing), thing)

    def test_bad_things(self):
        for thing in (-1, 3, 10 ** 12, *NO_INTEGERS):
            self.raises(BadThing(thing), check_thing, 3, thing)
        self.raises(BadThing(0), check_thing, 0, 0)

    def test_check_things(self):
        self.same(check_things(5, [3, 0, 4]), (0, 3, 4))
        self.same(check_things(5, (4, 3, 2, 1, 0)), (0, 1, 2, 3, 4))
        self.same(check_things(5, ()), ())
        self.same(check_things(0, []), ())

    def test_bad_sets_of_things(self):
        self.raises(BadPart(0), check_things, 0, [0])
        self.raises(BadPart(1), check_things, 3, [2, 3])
        self.raises(BadPart(2), check_things, 3, (2, 0, -1, 7))
        self.raises(BadPart(2), check_things, 3, (2, 0, 2, 7))
        self.raises(BadPart(1), check_things, 3, (1, 1, True))
        for thing in NO_INTEGERS:
            self.raises(BadPart(1), check_things, 3, (2, thing, 2))


class Needs(Case):
    def test_check_needs(self):
        self.same(check_needs(3, None), (1, 1, 1))
        self.same(check_needs(0, None), ())
        self.same(check_needs(0, []), ())
        self.same(check_needs(3, [0, 10 ** 12, 2]), (0, 10 ** 12, 2))
        self.same(check_needs(2, (0, 0)), (0, 0))

    def test_bad_entries_come_first(self):
        for need in (-1, *NO_INTEGERS):
            self.raises(BadNeeds(1), check_needs, 3, [0, need, 5])
            self.raises(BadNeeds(1), check_needs, 3, (0, need, -4))
            self.raises(BadNeeds(1), check_needs, 3, (0, need))
            self.raises(BadNeeds(1), check_needs, 3, (0, need, 1, 1))

    def test_wrong_length(self):
        self.raises(BadNeeds(2), check_needs, 3, [1, 1])
        self.raises(BadNeeds(0), check_needs, 3, ())
        self.raises(BadNeeds(3), check_needs, 3, (1, 1, 1, 1))
        # What stands behind the things is not looked at.
        self.raises(BadNeeds(3), check_needs, 3, (1, 1, 1, -1))
        self.raises(BadNeeds(0), check_needs, 0, (True,))

    def test_weight(self):
        self.same(weight((3, 0, 10 ** 12), [0, 2]), 10 ** 12 + 3)
        self.same(weight([3, 0, 4], (1,)), 0)
        self.same(weight((3, 0, 4), ()), 0)
        self.same(weight(None, (2, 0)), 2)
        self.same(weight(None, []), 0)


if __name__ == "__main__":
    unittest.main()
