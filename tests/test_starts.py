"""perfectorders/starts.py: [65] starts, [66] bad threes, [67] climbs, [70] changed starts, [72], [73], [74]."""

import unittest
from itertools import product

from perfectorders.books import Book
from perfectorders.errors import BadNeeds, BadNumber, BadPart, BadThing, NotRight
from perfectorders.orders import Order
from perfectorders.starts import (StartBook, bad_threes, check_starts, floor, floor_paper, start_climb, starts_counter,
                                  starts_fit)
from perfectorders.strangers import free_of, held_by
from perfectorders.webs import Web
from tests import by_hand
from tests.by_hand import (Case, NO_INTEGERS, all_needs, all_orders, all_webs, bad_by_hand, bad_threes_by_hand, clash,
                           floor_by_hand, full_sets, heaviest_weight, held_from, level_weights, needy, sets_of,
                           some_webs, spans_of_rooms, subsets, weight_of)

LINE = Web.line(4)
PLAIN = Order.plain(LINE)
WRONG = Order(LINE, (0, 3, 1, 2))
MOST = 10 ** 12


def start_rows(many, most=3):
    return list(product(range(1, most + 1), repeat=many))


def cases():
    """Orders with starts and needs."""
    for web in all_webs(3):
        for order in all_orders(web):
            for place, starts in enumerate(start_rows(web.many)):
                yield order, starts, tuple((thing * 3 + place) % 3 for thing in range(web.many))
    for web in [LINE, *some_webs(9, 4), *some_webs(171)]:
        for number, order in enumerate(all_orders(web)[::13]):
            for place, starts in enumerate(start_rows(web.many, 4)[number % 11::61]):
                yield order, starts, tuple((thing * 5 + place + number) % 4 for thing in range(web.many))


class Checks(Case):
    def test_starts(self):
        self.same(check_starts(3, [1, MOST, 2]), (1, MOST, 2))
        self.same((check_starts(0, ()), check_starts(0, [])), ((), ()))

    def test_bad_starts(self):
        for value in (0, -1, *NO_INTEGERS):
            self.raises(BadNumber("starts"), check_starts, 2, (1, value))
        for value in (None, 3, "11", {1: 1, 2: 1}, {1, 2}, (1,), [1, 1, 1], ()):
            self.raises(BadNumber("starts"), check_starts, 2, value)

    def test_every_call_checks_them(self):
        for starts in ((1, 1, 1), [1, 1, 1, 1, 1], (1, 0, 1, 1), (1, True, 1, 1), None, (1, 1, 1, "1")):
            self.raises(BadNumber("starts"), StartBook, PLAIN, starts, (-1,))
            for call in (floor, floor_paper):
                self.raises(BadNumber("starts"), call, LINE, starts, (-1,))
            for call in (bad_threes, starts_fit, starts_counter):
                self.raises(BadNumber("starts"), call, PLAIN, starts)

    def test_needs_come_after_the_starts(self):
        for value in (-1, *NO_INTEGERS):
            self.raises(BadNeeds(1), StartBook, PLAIN, (1, 1, 1, 1), (1, value, value, 1))
            for call in (floor, floor_paper):
                self.raises(BadNeeds(1), call, LINE, (1, 1, 1, 1), (1, value, value, 1))
        self.raises(BadNeeds(3), StartBook, PLAIN, (1, 1, 1, 1), (1, 1, 1))
        self.raises(BadNeeds(4), floor, LINE, (1, 1, 1, 1), [1, 1, 1, 1, 1])


class StartBooks(Case):
    def test_thing_by_thing(self):
        for order, starts, needs in cases():
            book = StartBook(order, list(starts), list(needs))
            held = held_from(order.web, order.row, starts, needs)
            self.same(book.spans, spans_of_rooms(held))
            self.same((book.order, book.starts, book.needs), (order, starts, needs))
            for thing in range(len(order)):
                rooms = [room for first, last in book.rooms_of(thing) for room in range(first, last + 1)]
                self.same(rooms, held[thing])
                self.same(book.last_of(thing), max(held[thing], default=0))
            whole = {room for rooms in held.values() for room in rooms}
            self.same(book.room_count, max(whole, default=0))
            for things in subsets(range(len(order)))[::3]:
                rooms = {room for x in things for room in held[x]}
                self.same((held_by(book, things), free_of(book, things)), (len(rooms), len(whole - rooms)))
                self.same(book.holds_all(things), rooms == set(range(1, book.room_count + 1)))

    def test_starts_of_one_are_the_book(self):
        for web in [*all_webs(3), *some_webs(211)]:
            for order in all_orders(web)[::7]:
                for needs in all_needs(web.many, 2)[::13]:
                    book = StartBook(order, (1,) * web.many, needs)
                    self.assertTrue(book == Book(order, needs) and Book(order, needs) == book)
                    self.same(starts_fit(order, (1,) * web.many), not bad_by_hand(web, order.row))

    def test_great_starts(self):
        book = StartBook(PLAIN, (MOST, 1, 5, MOST), (MOST, 10, MOST, 2))
        # The last thing finds the rooms from MOST on taken by thing 2.
        self.same(book.rooms_of(2), ((11, MOST + 10),))
        self.same(book.rooms_of(3), ((MOST + 11, MOST + 12),))
        self.same(book.spans, ((10, (1,)), (MOST - 11, (2,)), (11, (0, 2)), (2, (0, 3)), (MOST - 13, (0,))))
        self.same(book.room_count, 2 * MOST - 1)
        one = StartBook(Order.plain(Web(1)), [MOST])
        self.same((one.spans, one.rooms_of(0), one.lot_at(1), one.holds_all((0,)), one.needs),
                  (((MOST - 1, ()), (1, (0,))), ((MOST, MOST),), (), False, (1,)))

    def test_rooms_that_nothing_holds_between_others(self):
        book = StartBook(Order.plain(Web(2)), (2, 6), (2, 1))
        self.same((book.spans, book[1], book[4]), (((1, ()), (2, (0,)), (2, ()), (1, (1,))), (), ()))
        self.same((free_of(book, (0,)), held_by(book, (0,)), len(book)), (1, 2, 4))

    def test_edges(self):
        book = StartBook(Order.plain(Web(0)), ())
        self.same((book.spans, book.starts, book.needs, book.room_count), ((), (), (), 0))
        book = StartBook(PLAIN, (9, 9, 9, 9), (0, 0, 0, 0))
        self.same((book.spans, book.room_count), ((), 0))

    def test_does_not_keep_the_lists(self):
        starts, needs = [1, 2, 1, 1], [1, 1, 1, 1]
        book = StartBook(PLAIN, starts, needs)
        starts[0] = needs[0] = 7
        self.same((book.starts, book.needs), ((1, 2, 1, 1), (1, 1, 1, 1)))

    def test_the_book_s_errors(self):
        book = StartBook(PLAIN, (1, 2, 1, 1))
        self.raises(BadThing(4), book.rooms_of, 4)
        self.raises(BadNumber("room"), lambda: book[True])
        self.raises(BadPart(0), free_of, book, (4,))

    def test_starts_as_a_knot_in_front(self):
        """[73]: new things with need 1 in front hold the rooms below the starts."""
        for order, starts, needs in list(cases())[::3]:
            old = len(order)
            late = max(starts, default=1) - 1
            pairs = [*order.web.clashes, *[(x, y) for y in range(old, old + late) for x in range(old, y)]]
            for j in range(1, late + 1):
                pairs.extend((thing, old + j - 1) for thing in range(old) if starts[thing] > j)
            longer = Order(Web(old + late, pairs), [*range(old, old + late), *order.row])
            book = Book(longer, (*needs, *(1,) * late))
            other = StartBook(order, starts, needs)
            self.same([book.rooms_of(thing) for thing in range(old)], [other.rooms_of(thing) for thing in range(old)])


class Floors(Case):
    def test_floors(self):
        for order, starts, needs in cases():
            web = order.web
            self.same(floor(web, list(starts), list(needs)), floor_by_hand(web, starts, needs))
            if not any(needs):
                self.same(floor_paper(web, starts, needs), None)
                continue
            weights = level_weights(web, starts, needs)
            totals = [level + heavy for level, heavy in enumerate(weights)]
            level = totals.index(max(totals))
            above = [x for x in needy(needs) if starts[x] > level]
            knots = [knot for knot in full_sets(web, above, by_hand.is_knot)
                     if weight_of(needs, knot) == weights[level]]
            self.same(floor_paper(web, list(starts), needs), (level, min(knots)))

    def test_no_order_stays_below_the_floor(self):
        for order, starts, needs in cases():
            self.assertGreaterEqual(StartBook(order, starts, needs).room_count, floor(order.web, starts, needs))

    def test_edges(self):
        self.same((floor(Web(0), ()), floor_paper(Web(0), ()), floor(Web(1), (5,)), floor_paper(Web(1), (5,))),
                  (0, None, 5, (4, (0,))))
        self.same((floor(LINE, (7, 7, 7, 7), (0, 0, 0, 0)), floor_paper(LINE, (7, 7, 7, 7), (0, 0, 0, 0))), (0, None))
        # A thing that is not needy starts late without effect.
        self.same(floor(LINE, (1, 1, 1, MOST), (1, 1, 1, 0)), 2)
        self.same(floor(LINE, (3, 3, 3, 3), (2, 1, 3, 1)), 6)
        self.same(floor(LINE, (MOST, 1, 1, MOST), (1, MOST, MOST, 0)), 2 * MOST)
        self.same(floor_paper(LINE, (MOST, 1, 1, MOST), (1, MOST, MOST, 0)), (0, (1, 2)))
        self.same(floor(LINE, (MOST, MOST, 1, 1)), MOST + 1)
        # Of two levels that give the floor the lesser one is told, and of its knots the least one.
        self.same(floor_paper(Web(2), (1, 3), (3, 1)), (0, (0,)))
        self.same(floor_paper(Web(3), (3, 3, 1), (1, 1, 3)), (0, (2,)))
        self.same(floor_paper(Web(3), (3, 3, 1), (1, 1, 2)), (2, (0,)))

    def test_changed_starts(self):
        """[70]: later starts, equal starts, and further needs of one thing."""
        for order, starts, needs in list(cases())[::3]:
            web = order.web
            before = floor(web, starts, needs)
            for thing in range(web.many):
                later = by_hand.at(starts, thing, starts[thing] + 1)
                grown = floor(web, later, needs) - before
                self.assertIn(grown, (0, 1) if needs[thing] else (0,))
                if needs[thing]:
                    best = max(level + max(weight_of(needs, knot) for knot in sets_of(
                        web, [x for x in needy(needs) if starts[x] > level], by_hand.is_knot) if thing in knot)
                        for level in range(starts[thing]))
                    for more in range(4):
                        raised = by_hand.at(needs, thing, needs[thing] + more)
                        self.same(floor(web, starts, raised), max(before, best + more))
            if any(needs):
                for start in (1, 3):
                    self.same(floor(web, (start,) * web.many, needs), start - 1 + heaviest_weight(web, needs))


class Fit(Case):
    def test_bad_threes(self):
        for order, starts, _ in cases():
            bad = bad_threes_by_hand(order, starts)
            self.same(bad_threes(order, list(starts)), bad)
            self.same(starts_fit(order, list(starts)), not bad and not bad_by_hand(order.web, order.row))

    def test_starts_that_fit_reach_just_the_floor(self):
        for order, starts, needs in cases():
            if starts_fit(order, starts):
                self.same(StartBook(order, starts, needs).room_count, floor(order.web, starts, needs))

    def test_counters(self):
        for order, starts, _ in cases():
            needs = starts_counter(order, list(starts))
            self.same(needs, self.counter_by_hand(order, starts))
            if needs is not None:
                self.assertGreater(StartBook(order, starts, needs).room_count, floor_by_hand(order.web, starts, needs))

    def counter_by_hand(self, order, starts):
        threes = bad_threes_by_hand(order, starts)
        rows = bad_by_hand(order.web, order.row)
        needs = [0] * len(order)
        if threes:
            b, c, d = threes[0]
            needs[b] = 1
            needs[c] = starts[d] - starts[c] + 1 if starts[d] > starts[c] else 1
            needs[d] = starts[b] - starts[d]
            return tuple(needs)
        if rows:
            for thing in rows[0]:
                needs[thing] = 4 * (max(starts[x] for x in rows[0]) - 1) + 1
            return tuple(needs)
        return None

    def test_great_starts(self):
        order = Order(LINE, (1, 2, 3, 0))
        starts = (1, 1, 5, MOST)
        self.same((bad_threes(order, starts), starts_counter(order, starts)),
                  (((3, 2, 1),), (0, MOST - 1, 1, 1)))
        starts = (1, 7, 5, MOST)
        self.same(starts_counter(order, starts), (0, MOST - 7, 3, 1))
        self.same(starts_counter(WRONG, (1, MOST, MOST, 1)), (4 * MOST - 3,) * 4)
        self.same(starts_counter(WRONG, (1, 1, 1, 1)), (1, 1, 1, 1))

    def test_the_document_s_example(self):
        order = Order(LINE, (1, 2, 3, 0))
        starts = (1, 1, 1, 3)
        w = starts_counter(order, starts)
        self.same((bad_threes(order, starts), w, floor_paper(order.web, starts, w),
                   StartBook(order, starts, w).room_count), (((3, 2, 1),), (0, 2, 1, 1), (0, (1, 2)), 4))

    def test_edges(self):
        none = Order.plain(Web(0))
        self.same((bad_threes(none, ()), starts_fit(none, []), starts_counter(none, ())), ((), True, None))
        one = Order.plain(Web(1))
        self.same((bad_threes(one, (9,)), starts_fit(one, (9,)), starts_counter(one, (9,))), ((), True, None))
        self.same((starts_fit(WRONG, (1, 1, 1, 1)), bad_threes(WRONG, (1, 1, 1, 1))), (False, ()))

    def test_strangers_with_starts(self):
        """[72]."""
        for order, starts, needs in list(cases())[::2]:
            held = held_from(order.web, order.row, starts, needs)
            for strangers in subsets(range(len(order))):
                rest = [thing for thing in range(len(order)) if thing not in strangers]
                bad = [row for row in [*bad_by_hand(order.web, order.row), *bad_threes_by_hand(order, starts)]
                       if not set(row) & set(strangers)]
                if not bad:
                    last = max([room for thing in rest for room in held[thing]], default=0)
                    taken = {room for thing in strangers for room in held[thing]}
                    free = [room for room in range(1, last + 1) if room not in taken]
                    off = tuple(0 if thing in strangers else need for thing, need in enumerate(needs))
                    self.assertLessEqual(len(free), floor(order.web, starts, off))


class StartClimbs(Case):
    def climb_by_hand(self, order, starts, needs):
        held = held_from(order.web, order.row, starts, needs)
        lots = {}
        for thing in sorted(held):
            for room in held[thing]:
                lots.setdefault(room, []).append(thing)
        top = max(lots)
        knot = [lots[top][0]]
        for room in range(top - 1, 0, -1):
            if set(knot) & set(lots.get(room, [])):
                continue
            if all(starts[thing] > room for thing in knot):
                return (room, tuple(sorted(knot)))
            knot.append(min(x for x in lots[room] if all(clash(order.web, x, y) for y in knot)))
        return (0, tuple(sorted(knot)))

    def test_room_by_room(self):
        for order, starts, needs in cases():
            book = StartBook(order, starts, needs)
            rows = [*bad_by_hand(order.web, order.row), None]
            threes = [*bad_threes_by_hand(order, starts), None]
            if rows[0] or threes[0]:
                self.raises(NotRight(rows[0] or threes[0]), start_climb, book)
            elif not any(needs):
                self.same(start_climb(book), None)
            else:
                level, knot = start_climb(book)
                self.same((level, knot), self.climb_by_hand(order, starts, needs))
                self.assertTrue(by_hand.is_knot(order.web, knot) and all(starts[x] > level for x in knot))
                self.same(book.room_count, level + weight_of(needs, knot))

    def test_great_numbers(self):
        order = Order.plain(Web.line(3))
        book = StartBook(order, (MOST, 1, 1), (5, MOST, MOST))
        # Thing 1 takes the rooms below those of thing 0 and the ones behind them.
        self.same(book.spans, ((MOST - 1, (1,)), (5, (0, 2)), (1, (1,)), (MOST - 5, (2,))))
        self.same(start_climb(book), (0, (1, 2)))
        book = StartBook(Order.plain(Web.full(2)), (MOST, 7), (3, 2))
        self.same((start_climb(book), book.room_count), ((MOST - 1, (0,)), MOST + 2))

    def test_not_right_comes_before_none(self):
        zero = (0, 0, 0, 0)
        self.raises(NotRight((0, 1, 2, 3)), start_climb, StartBook(WRONG, (1, 1, 1, 1), zero))
        # The first bad row is told even if there is a bad three, too.
        self.raises(NotRight((0, 1, 2, 3)), start_climb, StartBook(WRONG, (1, 1, 2, 1), zero))
        order = Order(LINE, (1, 2, 3, 0))
        self.raises(NotRight((3, 2, 1)), start_climb, StartBook(order, (1, 1, 1, 3), zero))
        self.same((start_climb(StartBook(PLAIN, (1, 1, 1, 1), zero)), start_climb(StartBook(Order.plain(Web(0)), ()))),
                  (None, None))


if __name__ == "__main__":
    unittest.main()
