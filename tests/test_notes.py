"""perfectorders/notes.py: [53] notes."""

import unittest
from itertools import product

from perfectorders.errors import BadNeeds, BadNotes, BadNumber, BadPart, TooMany
from perfectorders.notes import Notes
from tests.by_hand import Case, NO_INTEGERS, subsets

MOST = 10 ** 12


def cases():
    for many in range(4):
        for low in product(range(3), repeat=many):
            for step in product(range(3), repeat=many):
                yield low, tuple(one + two for one, two in zip(low, step))


def worlds_by_hand(low, high):
    return list(product(*[range(least, most + 1) for least, most in zip(low, high)]))


class NotesMade(Case):
    def test_attributes(self):
        for low, high in cases():
            notes = Notes(list(low), list(high))
            self.same((notes.low, notes.high, notes.is_settled), (low, high, low == high))
            self.same((Notes.just(list(high)).low, Notes.just(high).high), (high, high))
            self.same(Notes.just(low).is_settled, True)

    def test_edges(self):
        self.same((Notes((), ()).low, Notes([], ()).high, Notes((), ()).is_settled), ((), (), True))
        notes = Notes((0, MOST), (MOST, MOST))
        self.same((notes.low, notes.high, notes.is_settled), ((0, MOST), (MOST, MOST), False))
        self.same(vars(notes), vars(Notes([0, MOST], [MOST, MOST])))

    def test_does_not_keep_the_lists(self):
        low, high = [0, 1], [2, 3]
        notes = Notes(low, high)
        just = Notes.just(low)
        low[0] = high[1] = 9
        low.append(1)
        self.same((notes.low, notes.high, just.low, just.high), ((0, 1), (2, 3), (0, 1), (0, 1)))

    def test_bad_notes(self):
        for value in NO_INTEGERS:
            self.raises(BadNotes(1), Notes, (0, value, value), (0, 5, 5))
            self.raises(BadNotes(1), Notes, [0, 0, 0], [0, value, value])
            self.raises(BadNotes(2), Notes.just, (0, 0, value))
        self.raises(BadNotes(0), Notes, (-1, 0), (0, 0))
        self.raises(BadNotes(1), Notes, (0, 3), (0, 2))
        self.raises(BadNotes(0), Notes, (5,), (4, 0, 0))
        self.raises(BadNotes(1), Notes, (0,), (0, 1, -1))
        self.raises(BadNotes(2), Notes, (0, 0, -1), (0, 0))
        self.raises(BadNotes(0), Notes, (), (0,))
        self.raises(BadNotes(0), Notes.just, [-1])
        # The first bad thing is told also where the lengths differ.
        self.raises(BadNotes(1), Notes, (0, 1, 1), (0, 0))


class Worlds(Case):
    def test_holds_needs(self):
        for low, high in list(cases())[::5]:
            notes = Notes(low, high)
            for needs in product(range(5), repeat=len(low)):
                self.same(notes.holds_needs(list(needs)), needs in worlds_by_hand(low, high))
        self.same((Notes((0, 1), (0, 1)).holds_needs(None), Notes((0, 1), (1, 1)).holds_needs(None)), (False, True))
        self.same(Notes((), ()).holds_needs(()), True)
        self.same(Notes((0,), (MOST,)).holds_needs((MOST,)), True)
        self.same(Notes((0,), (MOST,)).holds_needs((MOST + 1,)), False)

    def test_high_on(self):
        for low, high in list(cases())[::3]:
            notes = Notes(low, high)
            for things in subsets(range(len(low))):
                world = tuple(high[x] if x in things else low[x] for x in range(len(low)))
                self.same(notes.high_on(list(things[::-1])), world)
        self.same(Notes((0, MOST), (1, MOST)).high_on(()), (0, MOST))

    def test_all_worlds(self):
        for low, high in cases():
            self.same(list(Notes(low, high).worlds()), worlds_by_hand(low, high))
        self.same(list(Notes((), ()).worlds()), [()])
        self.same(list(Notes.just((MOST, 0)).worlds(limit=1)), [(MOST, 0)])

    def test_limit(self):
        notes = Notes((0, 1), (1, 3))
        self.same(list(notes.worlds(limit=6)), worlds_by_hand((0, 1), (1, 3)))
        told = notes.worlds(limit=5)
        self.same([next(told) for _ in range(5)], worlds_by_hand((0, 1), (1, 3))[:5])
        self.raises(TooMany(5), next, told)
        self.same(len(list(Notes((0,), (499,)).worlds())), 500)
        told = Notes((0,), (500,)).worlds()
        self.same([next(told) for _ in range(500)][-1], (499,))
        self.raises(TooMany(500), next, told)

    def test_great_notes(self):
        told = Notes((MOST, 0), (MOST, MOST)).worlds(limit=3)
        self.same([next(told) for _ in range(3)], [(MOST, 0), (MOST, 1), (MOST, 2)])
        self.raises(TooMany(3), next, told)
        told = Notes((0, MOST - 1), (MOST, MOST)).worlds()
        self.same([next(told) for _ in range(3)], [(0, MOST - 1), (0, MOST), (1, MOST - 1)])

    def test_errors(self):
        notes = Notes((0, 1, 0), (2, 2, 0))
        for value in (-1, *NO_INTEGERS):
            self.raises(BadNeeds(1), notes.holds_needs, (0, value, value))
        self.raises(BadNeeds(2), notes.holds_needs, [0, 0])
        self.raises(BadNeeds(3), notes.holds_needs, [0, 0, 0, 0])
        for thing in (3, -1, *NO_INTEGERS):
            self.raises(BadPart(1), notes.high_on, [0, thing])
        self.raises(BadPart(2), notes.high_on, (0, 1, 0))
        for limit in (0, -1, *NO_INTEGERS):
            told = notes.worlds(limit=limit)
            self.raises(BadNumber("limit"), next, told)


if __name__ == "__main__":
    unittest.main()
