"""perfectorders/unseen.py: [129] every world, [130] starts within limits, [135] strangers and things booked ahead."""

import unittest
from itertools import permutations, product
from random import Random

from perfectorders.arrivals import Arrivals
from perfectorders.booked import AheadBook
from perfectorders.books import Book
from perfectorders.errors import BadNotes, NoneSuch
from perfectorders.maybes import MaybeWeb, possible_rows
from perfectorders.notes import Notes
from perfectorders.orders import Order
from perfectorders.starts import StartBook
from perfectorders.strangers import free_of, worst_strangers
from perfectorders.unseen import Unseen
from perfectorders.unseenends import highest_rooms
from perfectorders.webs import Web
from tests.by_hand import (Case, NO_INTEGERS, bad_by_hand, bad_threes_by_hand, count_by_hand, floor_by_hand,
                           heaviest_weight, held_from, ones_on, pairs_of, rows_by_hand, sides, subsets)

LINE = Web.line(4)
PLAIN = Arrivals(((0, 0), (1, 1), (2, 2), (3, 3)))


def some_unseen(many, number):
    """Things of which little is known, other ones for each number."""
    chance = Random(number)
    kinds = {pair: chance.choice(("g", "g", "c", "c", "m")[number % 3:]) for pair in pairs_of(range(many))}
    sure = [pair for pair, kind in kinds.items() if kind == "c"]
    maybe = [pair for pair, kind in kinds.items() if kind == "m"][:5]
    spans = []
    for thing in range(many):
        first = chance.randrange(5) if number % 5 else thing
        spans.append((first, first + chance.randrange(number % 4 + 1)))
    low = tuple(chance.randrange(1, 3) for _ in range(many))
    high = tuple(start + chance.randrange(2 + number % 2) for start in low)
    starts = Notes(low, high) if number % 3 else Notes.just((1,) * many)
    return Unseen(MaybeWeb(many, sure, maybe), Arrivals(spans), starts=starts)


def cases():
    for many in range(4):
        for number in range(20):
            yield some_unseen(many, number)
    for number in range(150):
        yield some_unseen(4, number)
    for number in range(30):
        yield some_unseen(5, number)


def worlds_of(unseen):
    maybe_web = unseen.maybe_web
    return [Web(maybe_web.many, maybe_web.sure + chosen) for chosen in subsets(maybe_web.maybe)]


def rows_of(unseen):
    spans = unseen.arrivals.spans
    return [row for row in permutations(range(len(spans)))
            if all(spans[x][0] <= spans[y][1] for at, y in enumerate(row) for x in row[:at])]


def all_between(notes):
    return list(product(*[range(low, high + 1) for low, high in zip(notes.low, notes.high)]))


class EveryWorld(Case):
    def test_rows_that_are_bad_in_some_world(self):
        found = 0
        for unseen in cases():
            rows = {bad for web in worlds_of(unseen) for row in rows_of(unseen) for bad in bad_by_hand(web, row)}
            self.same(unseen.possible_bad(), tuple(sorted(rows)))
            found += bool(rows)
        self.assertGreater(found, 30)

    def test_threes_that_are_bad_in_some_world(self):
        found = 0
        for unseen in cases():
            worlds, rows = worlds_of(unseen), rows_of(unseen)
            expected = self.by_hand(unseen)
            if unseen.maybe_web.many < 4:
                threes = {bad for starts in all_between(unseen.start_notes) for web in worlds for row in rows
                          for bad in bad_threes_by_hand(Order(web, row), starts)}
                self.same(tuple(sorted(threes)), expected)
            self.same(unseen.possible_three(), expected)
            found += bool(expected)
            self.same(unseen.is_safe(), not expected and not unseen.possible_bad())
        self.assertGreater(found, 30)

    def by_hand(self, unseen):
        web, spans, notes = unseen.maybe_web, unseen.arrivals.spans, unseen.start_notes
        can = set(web.sure + web.maybe)
        return tuple((b, c, d) for b, c, d in permutations(range(web.many), 3)
                     if sides(b, c) in can and sides(c, d) in can and sides(b, d) not in web.sure
                     and spans[d][0] <= spans[c][1] and notes.high[b] > notes.low[c] and notes.high[b] > notes.low[d])

    def test_safe_just_if_the_starts_fit_in_every_world(self):
        for unseen in cases():
            if unseen.maybe_web.many > 4:
                continue
            worlds, rows = worlds_of(unseen), rows_of(unseen)
            fits = not any(bad_by_hand(web, row) for web in worlds for row in rows)
            if fits:
                starts = all_between(unseen.start_notes)
                fits = not any(bad_threes_by_hand(Order(web, row), told) for web in worlds for row in rows for told in starts)
            self.same(unseen.is_safe(), fits)

    def test_a_world_against(self):
        for unseen in cases():
            rows = unseen.possible_bad()
            if not rows:
                self.same(unseen.counter_world(), None)
                continue
            a, b, c, d = rows[0]
            clashing = [pair for pair in (sides(a, b), sides(b, c), sides(c, d)) if pair in unseen.maybe_web.maybe]
            web = Web(unseen.maybe_web.many, [*unseen.maybe_web.sure, *clashing])
            told = [row for row in rows_of(unseen) if row.index(a) < row.index(b) and row.index(d) < row.index(c)]
            self.same(unseen.counter_world(), (web, told[0], tuple(sorted(rows[0]))))
            needs = ones_on(web.many, rows[0])
            self.same((count_by_hand(web, told[0], needs), heaviest_weight(web, needs)), (3, 2))

    def test_starts_against(self):
        found = 0
        for unseen in cases():
            threes = unseen.possible_three()
            if unseen.possible_bad() or not threes:
                self.same(unseen.counter_starts(), None)
                continue
            found += 1
            b, c, d = threes[0]
            clashing = [pair for pair in (sides(b, c), sides(c, d)) if pair in unseen.maybe_web.maybe]
            web = Web(unseen.maybe_web.many, [*unseen.maybe_web.sure, *clashing])
            row = [row for row in rows_of(unseen) if row.index(d) < row.index(c)][0]
            notes = unseen.start_notes
            starts = tuple(notes.high[x] if x == b else notes.low[x] for x in range(web.many))
            needs = [0] * web.many
            needs[b], needs[d], needs[c] = 1, starts[b] - starts[d], 1 + max(0, starts[d] - starts[c])
            self.same(unseen.counter_starts(), (web, row, starts, tuple(needs)))
            held = held_from(web, row, starts, needs)
            self.same((floor_by_hand(web, starts, needs), max(room for rooms in held.values() for room in rooms)),
                      (starts[b], starts[b] + 1))
        self.assertGreater(found, 10)

    def test_safe_things(self):
        """[129]: the room count in every part and behind each beginning, and of needs together."""
        for number, unseen in enumerate(cases()):
            if unseen.possible_bad() or number % 7:
                continue
            many = unseen.maybe_web.many
            for web in worlds_of(unseen)[::3]:
                for row in rows_of(unseen)[::3]:
                    needs = tuple((number + thing * 5) % 4 for thing in range(many))
                    other = tuple((number + thing * 3) % 3 for thing in range(many))
                    both = tuple(one + two for one, two in zip(needs, other))
                    self.same(count_by_hand(web, row, needs), heaviest_weight(web, needs))
                    self.assertLessEqual(count_by_hand(web, row, both),
                                         count_by_hand(web, row, needs) + count_by_hand(web, row, other))
                    first = tuple(needs[thing] if thing in row[:number % 4] else 0 for thing in range(many))
                    self.same(count_by_hand(web, row, first), heaviest_weight(web, first))

    def test_order_in_a_world(self):
        for unseen in cases():
            spans = unseen.arrivals.spans
            times = [first if thing % 2 else last for thing, (first, last) in enumerate(spans)]
            row = sorted(range(len(spans)), key=lambda thing: (times[thing], thing))
            for web in worlds_of(unseen):
                self.same(unseen.order_in(web, times), Order(web, row))

    def test_example(self):
        unseen = Unseen(MaybeWeb(4, [(0, 1), (2, 3)], [(1, 2)]), Arrivals(((0, 0), (1, 1), (2, 2), (1, 1))))
        web, row, part = unseen.counter_world()
        self.same((unseen.possible_bad(), web.clashes, row, part),
                  (((0, 1, 2, 3),), ((0, 1), (1, 2), (2, 3)), (0, 1, 3, 2), (0, 1, 2, 3)))

    def test_defaults(self):
        maybe_web = MaybeWeb.below(LINE)
        unseen = Unseen(maybe_web, PLAIN)
        self.same((unseen.notes.low, unseen.notes.high, unseen.start_notes.low, unseen.start_notes.high), ((1,) * 4,) * 4)
        self.assertIs(unseen.maybe_web, maybe_web)
        self.assertIs(unseen.arrivals, PLAIN)
        self.same((unseen.possible_three(), unseen.counter_starts()), ((), None))
        notes = Notes((0,) * 4, (3,) * 4)
        starts = Notes((1,) * 4, (2,) * 4)
        unseen = Unseen(maybe_web, PLAIN, notes=notes, starts=starts)
        self.assertTrue(unseen.notes is notes and unseen.start_notes is starts)

    def test_edges(self):
        for many in (0, 1):
            unseen = Unseen(MaybeWeb(many), Arrivals([(0, 0)] * many))
            self.same((unseen.possible_bad(), unseen.possible_three(), unseen.is_safe(), unseen.counter_world(),
                       unseen.counter_starts(), unseen.order_in(Web(many), (0,) * many)),
                      ((), (), True, None, None, Order.plain(Web(many))))
        great = Unseen(MaybeWeb.below(Web.full(16)), Arrivals([(0, 9)] * 16), starts=Notes((1,) * 16, (10 ** 12,) * 16))
        self.same((great.possible_bad(), len(great.possible_three())), (possible_rows(great.maybe_web), 16 * 15 * 14))

    def test_wrong_numbers_of_things(self):
        maybe_web = MaybeWeb(4)
        three, five = Notes.just((0,) * 3), Notes.just((0,) * 5)
        for spans in ((), [(0, 1)] * 3, [(0, 1)] * 5):
            with self.assertRaises(BadNotes) as caught:
                Unseen(maybe_web, Arrivals(spans), notes=three, starts=five)
            self.same(caught.exception.thing, min(len(spans), 4))
        for notes, starts, k in ((three, five, 3), (five, three, 4), (None, three, 3), (Notes.just((0,) * 4), five, 4)):
            with self.assertRaises(BadNotes) as caught:
                Unseen(maybe_web, PLAIN, notes=notes, starts=starts)
            self.same(caught.exception.thing, k)
        with self.assertRaises(BadNotes) as caught:
            Unseen(maybe_web, PLAIN, starts=Notes((1, 1, 0, 0), (1, 1, 5, 5)))
        self.same(caught.exception.thing, 2)

    def test_bad_times_and_no_world(self):
        unseen = Unseen(MaybeWeb(4, [(0, 1)]), PLAIN)
        for time in (0, 2, *NO_INTEGERS):
            self.raises(BadNotes(1), unseen.order_in, Web(9), (0, time, 2, 3))
        self.raises(BadNotes(3), unseen.order_in, Web(4), (0, 1, 2))
        for web in (Web(4), Web(5, [(0, 1)]), Web(4, [(0, 1), (1, 2)])):
            self.raises(NoneSuch("world"), unseen.order_in, web, (0, 1, 2, 3))


class StrangersUnseen(Case):
    def test_new_things(self):
        """(a): no more than the floor in the highest world at the high needs, plus their needs."""
        chance = Random(6)
        for number, unseen in enumerate(cases()):
            if unseen.possible_bad() or number % 3:
                continue
            many = unseen.maybe_web.many
            notes = Notes((0,) * many, tuple(chance.randrange(4) for _ in range(many)))
            told = Unseen(unseen.maybe_web, unseen.arrivals, notes=notes)
            most = highest_rooms(told)
            more = [chance.randrange(4) for _ in range(2)]
            for web in worlds_of(unseen)[::3]:
                needs = [chance.randrange(high + 1) for high in notes.high] + more
                pairs = [(x, y) for y in (many, many + 1) for x in range(y) if chance.random() < 0.6]
                row = list(chance.choice(rows_of(unseen)))
                row.insert(chance.randrange(many + 1), many)
                row.insert(chance.randrange(many + 2), many + 1)
                count = count_by_hand(Web(many + 2, [*web.clashes, *pairs]), row, needs)
                self.assertLessEqual(count, most + sum(more))
            worst = worst_strangers(Order(unseen.maybe_web.highest(), rows_of(unseen)[0]), 2)
            self.same(Book(worst, [*notes.high, *more]).room_count, most + sum(more))

    def test_sets_that_meet_each_possibly_bad_row(self):
        """(b) and (c): rooms without the things, and with the things booked ahead."""
        chance = Random(12)
        for number, unseen in enumerate(cases()):
            many = unseen.maybe_web.many
            if many < 4 or number % 4:
                continue
            rows = rows_of(unseen)[::3]
            for things in subsets(range(many))[::3]:
                left = [row for row in unseen.possible_bad() if not set(row) & set(things)]
                if left:
                    web, row, part = told_against(unseen, left[0])
                    needs = ones_on(many, part)
                    self.same((free_of(Book(Order(web, row), needs), things), heaviest_weight(web, needs)), (3, 2))
                    continue
                for web in worlds_of(unseen)[::3]:
                    needs = tuple(chance.randrange(4) for _ in range(many))
                    off = tuple(0 if x in things else need for x, need in enumerate(needs))
                    row = chance.choice(rows)
                    self.assertLessEqual(free_of(Book(Order(web, row), needs), things), heaviest_weight(web, off))
                    rooms = [()] * many
                    for x in things:
                        taken = {room for y in range(many) if sides(x, y) in web.clashes for room in rooms[y]}
                        rooms[x] = [room for room in range(1, 7) if room not in taken and chance.random() < 0.4] or \
                            [min(set(range(1, 20)) - taken)]
                    ahead = AheadBook(Order(web, row), rooms, needs)
                    self.assertLessEqual(ahead.own_count, heaviest_weight(web, off))

    def test_where_one_thing_may_come_in(self):
        """(d): behind and ahead of what the possible rows with the thing ask; one stretch, which may be empty."""
        chance = Random(1)
        sizes = set()
        for number in range(150):
            maybe_web = some_unseen(5, number).maybe_web
            thing = number % 5
            others = [x for x in range(5) if x != thing]
            chance.shuffle(others)
            both = [told for row in possible_rows(maybe_web) for told in (row, row[::-1])]
            floors = [b for v, b, c, d in both if v == thing and others.index(d) < others.index(c)]
            roofs = [a for a, v, c, d in both if v == thing and others.index(d) < others.index(c)]
            fits = []
            for place in range(5):
                row = others[:place] + [thing] + others[place:]
                spans = [(row.index(x), row.index(x)) for x in range(5)]
                bad = Unseen(maybe_web, Arrivals(spans)).possible_bad()
                if any(thing not in one for one in bad):
                    break
                asked = all(row.index(x) < place for x in floors) and all(row.index(x) > place for x in roofs)
                self.same(not bad, asked)
                fits.append(not bad)
            if len(fits) == 5:
                sizes.add(sum(fits))
        self.assertTrue({0, 5} < sizes)


def told_against(unseen, row):
    """A world, a fitting row and the needy things with which the row of four is bad."""
    a, b, c, d = row
    clashing = [pair for pair in (sides(a, b), sides(b, c), sides(c, d)) if pair in unseen.maybe_web.maybe]
    web = Web(unseen.maybe_web.many, [*unseen.maybe_web.sure, *clashing])
    told = [one for one in rows_of(unseen) if one.index(a) < one.index(b) and one.index(d) < one.index(c)]
    assert row in rows_by_hand(web)
    return web, told[0], row


class StartBooksOfSafeThings(Case):
    def test_as_many_rooms_as_the_floor(self):
        for number, unseen in enumerate(cases()):
            if not unseen.is_safe() or number % 5:
                continue
            many = unseen.maybe_web.many
            needs = tuple((number + thing * 7) % 4 for thing in range(many))
            for web in worlds_of(unseen)[::3]:
                for row in rows_of(unseen)[::5]:
                    for starts in all_between(unseen.start_notes)[::5]:
                        held = held_from(web, row, starts, needs)
                        most = max([room for rooms in held.values() for room in rooms], default=0)
                        self.same(most, floor_by_hand(web, starts, needs))
                        self.same(StartBook(Order(web, row), starts, needs).room_count, most)


if __name__ == "__main__":
    unittest.main()
