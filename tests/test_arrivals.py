"""perfectorders/arrivals.py: [125] arrivals, [126] every arrival, [127] windows."""

import unittest
from itertools import permutations, product
from random import Random

from perfectorders.arrivals import Arrivals, window_for
from perfectorders.errors import BadNotes, BadOrder, BadRules, BadThing, NoneSuch
from perfectorders.rules import Rules, unsafe_row
from perfectorders.webs import Web
from tests.by_hand import Case, NO_INTEGERS, all_webs, bad_by_hand, rows_by_hand, some_webs

MOST = 10 ** 12
LINE = Web.line(4)


def some_spans(many, number):
    chance = Random(number)
    spans = []
    for _ in range(many):
        first = chance.randrange(-2, 4)
        spans.append((first, first + chance.randrange(number % 4 + 1)))
    return tuple(spans)


def times_for(spans, row):
    """All times within the spans that never fall along the row, by going through all times."""
    return [times for times in product(*[range(first, last + 1) for first, last in spans])
            if all(times[x] <= times[y] for x, y in zip(row, row[1:]))]


def fitting_rows(spans):
    """All rows that fit, ascending."""
    return [row for row in permutations(range(len(spans))) if times_for(spans, row)]


def cases(most=4):
    for many in range(most + 1):
        for number in range(14):
            yield some_spans(many, number)


class Fitting(Case):
    def test_all_times(self):
        for spans in cases():
            arrivals = Arrivals([list(span) for span in spans])
            self.same(arrivals.spans, spans)
            for row in permutations(range(len(spans))):
                found = times_for(spans, row)
                self.same(arrivals.fits(list(row)), bool(found))
                if found:
                    # The least times of each thing make one row of times.
                    least = tuple(min(times[thing] for times in found) for thing in range(len(spans)))
                    self.assertIn(least, found)
                    self.same(arrivals.times_of(row), least)
                else:
                    self.raises(NoneSuch("times"), arrivals.times_of, list(row))

    def test_can_be_ahead(self):
        for spans in cases():
            arrivals = Arrivals(spans)
            for x, y in product(range(len(spans)), repeat=2):
                some = x != y and any(s <= t for s in range(spans[x][0], spans[x][1] + 1)
                                      for t in range(spans[y][0], spans[y][1] + 1))
                self.same(arrivals.can_be_ahead(x, y), some)

    def test_sure_rules(self):
        for spans in cases():
            arrivals = Arrivals(spans)
            rules = arrivals.sure_rules()
            pairs = tuple((x, y) for x, y in product(range(len(spans)), repeat=2) if spans[x][1] < spans[y][0])
            self.assertIsInstance(rules, Rules)
            self.same((rules.many, rules.pairs), (len(spans), pairs))
            self.same(list(rules.all_rows()), fitting_rows(spans))

    def test_least_row_with_pairs(self):
        chance = Random(8)
        for spans in cases():
            arrivals = Arrivals(spans)
            rows = fitting_rows(spans)
            for _ in range(4 if len(spans) > 1 else 1):
                pairs = [chance.sample(range(len(spans)), 2) for _ in range(chance.randrange(3))] if len(spans) > 1 else []
                kept = [row for row in rows if all(row.index(x) < row.index(y) for x, y in pairs)]
                self.same(arrivals.row_with(pairs), kept[0] if kept else None)

    def test_rows_by_times(self):
        for spans in cases(3):
            arrivals = Arrivals(spans)
            for times in product(*[range(first, last + 1) for first, last in spans]):
                row = tuple(sorted(range(len(spans)), key=lambda thing: (times[thing], thing)))
                self.same(arrivals(list(times)), row)
                self.same(arrivals.fits(row), True)

    def test_edges(self):
        none = Arrivals(())
        self.same((none.spans, none.fits(()), none.times_of([]), none(()), none.row_with(()), none.sure_rules().pairs),
                  ((), True, (), (), (), ()))
        one = Arrivals([(-5, 7)])
        self.same((one.fits((0,)), one.times_of((0,)), one([7]), one.can_be_ahead(0, 0)), (True, (-5,), (0,), False))
        equal = Arrivals(((1, 1), (1, 1), (0, 0)))
        self.same((equal([1, 1, 0]), equal.fits((2, 1, 0)), equal.can_be_ahead(0, 1), equal.can_be_ahead(1, 0)),
                  ((2, 0, 1), True, True, True))

    def test_great_times(self):
        arrivals = Arrivals(((-MOST, MOST), (MOST, MOST), (-MOST, -MOST + 1)))
        self.raises(NoneSuch("times"), arrivals.times_of, (1, 0, 2))
        self.same(arrivals.times_of((2, 0, 1)), (-MOST, MOST, -MOST))
        self.same(arrivals((MOST, MOST, -MOST)), (2, 0, 1))

    def test_keeps_no_list(self):
        spans = [[0, 1], [2, 3]]
        arrivals = Arrivals(spans)
        spans[0][1] = 9
        spans.append((0, 0))
        self.same((arrivals.spans, arrivals.can_be_ahead(1, 0)), (((0, 1), (2, 3)), False))


class Wrong(Case):
    def test_spans(self):
        for span in ((1, 0), (0,), (0, 1, 2), (True, 1), (0, None), (0.0, 1), "01", 3, None, {0: 1, 1: 2}, ([0], 1)):
            self.raises(BadNotes(1), Arrivals, [(0, 0), span, (5, 4)])

    def test_things(self):
        arrivals = Arrivals(((0, 1), (0, 1)))
        for value in (-1, 2, *NO_INTEGERS):
            self.raises(BadThing(value), arrivals.can_be_ahead, value, 9)
            self.raises(BadThing(value), arrivals.can_be_ahead, 0, value)

    def test_rows(self):
        arrivals = Arrivals(((5, 5), (0, 1), (0, 1)))
        for call in (arrivals.fits, arrivals.times_of):
            for row, place in (((0, 1), 2), ([0, 0, 1], 1), ((3, 1, 2), 0), ((0, 1, 2, 1), 3), ((0, True, 2), 1), ((), 0)):
                self.raises(BadOrder(place), call, row)

    def test_pairs(self):
        arrivals = Arrivals(((0, 9), (0, 9), (0, 9)))
        for pair in ((0, 0), (0, 3), (True, 0), (0,), None, "01", (0, 1, 2)):
            self.raises(BadRules(1), arrivals.row_with, [(0, 1), pair])

    def test_times(self):
        arrivals = Arrivals(((0, 1), (2, 4), (3, 3)))
        for time in (1, 5, *NO_INTEGERS):
            self.raises(BadNotes(1), arrivals, [1, time, 9])
        for times, place in (((0, 3), 2), ((), 0), ((0, 3, 3, 0), 3), ((2,), 0), ((0, 3, 4, 4), 2)):
            self.raises(BadNotes(place), arrivals, times)

    def test_windows(self):
        for many in (0, 3, 5):
            self.raises(BadNotes(min(many, 4)), window_for, LINE, Arrivals([(0, 1)] * many), 9)
        for value in (-1, 4, *NO_INTEGERS):
            self.raises(BadThing(value), window_for, LINE, Arrivals([(0, 1)] * 4), value)


class EveryArrival(Case):
    def cases(self):
        for number, web in enumerate([*all_webs(4), *some_webs(47), Web.ring(5), Web.line(5)]):
            yield web, some_spans(web.many, number), number

    def test_every_fitting_row_is_right(self):
        for web, spans, _ in self.cases():
            arrivals = Arrivals(spans)
            rules = arrivals.sure_rules()
            bad = [row for row in fitting_rows(spans) if bad_by_hand(web, row)]
            both = [told for row in rows_by_hand(web) for told in (row, row[::-1])]
            led = [row for row in both if arrivals.can_be_ahead(row[0], row[1]) and arrivals.can_be_ahead(row[3], row[2])]
            self.same(not led, not bad)
            self.same(unsafe_row(web, rules) is None, not bad)
            for a, b, c, d in both:
                if rules.precedes(b, d) and rules.precedes(c, a):
                    self.assertTrue(rules.precedes(b, a) or rules.precedes(c, d))

    def by_hand(self, web, spans, thing):
        after, before = [], []
        for row in rows_by_hand(web):
            for a, b, c, d in (row, row[::-1]):
                if thing in (a, b) and spans[d][0] <= spans[c][1]:
                    if thing == a:
                        after.append(spans[b][1])
                    else:
                        before.append(spans[a][0])
        return (max(after, default=None), min(before, default=None))

    def test_windows(self):
        tested = [0, 0]
        for web, spans, number in self.cases():
            for thing in range(web.many):
                after, before = self.by_hand(web, spans, thing)
                self.same(window_for(web, Arrivals(spans), thing), (after, before))
                others = [x for x in range(web.many) if x != thing]
                kept = [row for row in permutations(others) if times_for(spans_of(spans, row), tuple(range(len(row))))]
                if any(row_bad(web, row) for row in kept) or web.many < 4:
                    continue
                # The window of the thing itself is not looked at: any will do.
                for window in ((-3, 6), (number % 5 - 1, number % 5), (4, 6), (-2, -2)):
                    told = spans[:thing] + (window,) + spans[thing + 1:]
                    self.same(window_for(web, Arrivals(told), thing), (after, before))
                    meets = (after is None or window[0] > after) and (before is None or window[1] < before)
                    right = not any(bad_by_hand(web, row) for row in fitting_rows(told))
                    self.same(meets, right)
                    tested[right] += 1
        self.assertGreater(min(tested), 20)

    def test_edges(self):
        self.same(window_for(Web(1), Arrivals([(0, 0)]), 0), (None, None))
        self.same(window_for(Web.full(4), Arrivals([(0, 9)] * 4), 2), (None, None))
        line = Arrivals(((3, 4), (1, 2), (5, 6), (0, 9)))
        self.same((window_for(LINE, line, 0), window_for(LINE, line, 1)), ((2, None), (None, 3)))


def spans_of(spans, row):
    return tuple(spans[thing] for thing in row)


def row_bad(web, row):
    """Whether a row of some of the things has a bad row of four."""
    place = {thing: at for at, thing in enumerate(row)}
    return any({a, b, c, d} <= set(row) and place[a] < place[b] and place[d] < place[c]
               for a, b, c, d in rows_by_hand(web))


if __name__ == "__main__":
    unittest.main()
