"""perfectorders/unseenends.py: [131] two worlds, [132] slack over all worlds."""

import unittest
from itertools import permutations, product
from random import Random

from perfectorders.arrivals import Arrivals
from perfectorders.errors import BadNumber, BadThing, NoneSuch
from perfectorders.maybes import MaybeWeb
from perfectorders.notes import Notes
from perfectorders.starts import floor
from perfectorders.unseen import Unseen
from perfectorders.unseenends import (critical_in_all, critical_in_some, highest_rooms, lowest_rooms, slack_over,
                                      world_with_rooms)
from perfectorders.webs import Web
from tests.by_hand import (Case, NO_INTEGERS, floor_by_hand, heaviest_weight, held_from, pairs_of, subsets)

MOST = 10 ** 12
EXAMPLE = MaybeWeb(4, [(0, 1), (2, 3)], [(1, 2)])
TIMES = Arrivals(((0, 0), (1, 1), (2, 2), (3, 3)))


def anywhen(many):
    return Arrivals([(0, 0)] * many)


def some_unseen(many, number, low=None, starting=True):
    chance = Random(number)
    kinds = {pair: chance.choice("gcmm"[number % 3:]) for pair in pairs_of(range(many))}
    sure = [pair for pair, kind in kinds.items() if kind == "c"]
    maybe = [pair for pair, kind in kinds.items() if kind == "m"][:5]
    lows = [chance.randrange(3) if low is None else low for _ in range(many)]
    notes = Notes(lows, [need + chance.randrange(3) for need in lows])
    first = [chance.randrange(1, 4) for _ in range(many)]
    starts = Notes(first, [start + chance.randrange(3) for start in first]) if starting and number % 4 else None
    return Unseen(MaybeWeb(many, sure, maybe), anywhen(many), notes=notes, starts=starts)


def cases(**more):
    for many in range(5):
        for number in range(24):
            yield some_unseen(many, number, **more)


def wide_unseen(number):
    """Things whose starts and needs lie between wide limits."""
    chance = Random(number)
    many = chance.randrange(1, 6)
    kinds = {pair: chance.choice("gccm") for pair in pairs_of(range(many))}
    sure = [pair for pair, kind in kinds.items() if kind == "c"]
    maybe = [pair for pair, kind in kinds.items() if kind == "m"]
    first = [chance.randrange(1, 9) for _ in range(many)]
    return Unseen(MaybeWeb(many, sure, maybe), anywhen(many),
                  notes=Notes((1,) * many, [1 + chance.randrange(5) for _ in range(many)]),
                  starts=Notes(first, [start + chance.randrange(9) for start in first]))


def worlds_of(unseen):
    maybe_web = unseen.maybe_web
    return [Web(maybe_web.many, maybe_web.sure + chosen) for chosen in subsets(maybe_web.maybe)]


def all_between(notes):
    return list(product(*[range(low, high + 1) for low, high in zip(notes.low, notes.high)]))


def steps_from_the_lows(unseen):
    """All (web, needs, starts) of the way of point 131, step by step, to its end."""
    maybe_web, needs, starts = unseen.maybe_web, list(unseen.notes.low), list(unseen.start_notes.low)
    clashing = []
    way = [(Web(maybe_web.many, maybe_web.sure), tuple(needs), tuple(starts))]
    while True:
        late = [x for x in range(maybe_web.many) if starts[x] < unseen.start_notes.high[x]]
        few = [x for x in range(maybe_web.many) if needs[x] < unseen.notes.high[x]]
        if len(clashing) < len(maybe_web.maybe):
            clashing.append(maybe_web.maybe[len(clashing)])
        elif late:
            starts[late[0]] += 1
        elif few:
            needs[few[0]] += 1
        else:
            return way
        way.append((Web(maybe_web.many, [*maybe_web.sure, *clashing]), tuple(needs), tuple(starts)))


class TwoWorlds(Case):
    def test_floors(self):
        for unseen in cases():
            web, notes, starts = unseen.maybe_web, unseen.notes, unseen.start_notes
            self.same(lowest_rooms(unseen), floor_by_hand(Web(web.many, web.sure), starts.low, notes.low))
            self.same(highest_rooms(unseen), floor_by_hand(Web(web.many, web.sure + web.maybe), starts.high, notes.high))

    def test_ends_over_all_worlds(self):
        for unseen in cases():
            if unseen.maybe_web.many > 3:
                continue
            floors = [floor(web, starts, needs) for web in worlds_of(unseen)
                      for needs in all_between(unseen.notes) for starts in all_between(unseen.start_notes)]
            self.same((min(floors), max(floors)), (lowest_rooms(unseen), highest_rooms(unseen)))

    def test_room_counts_of_safe_things(self):
        """Over all worlds, fitting rows, needs and starts the room counts have just these ends."""
        tested = 0
        for number in range(400):
            unseen = some_unseen(3, number, low=1)
            if not unseen.is_safe():
                continue
            counts = set()
            for web in worlds_of(unseen):
                for row in permutations(range(3)):
                    for needs in all_between(unseen.notes)[::2] + [unseen.notes.low, unseen.notes.high]:
                        for starts in [unseen.start_notes.low, unseen.start_notes.high]:
                            held = held_from(web, row, starts, needs)
                            counts.add(max(room for rooms in held.values() for room in rooms))
            self.same((min(counts), max(counts)), (lowest_rooms(unseen), highest_rooms(unseen)))
            tested += 1
        self.assertGreater(tested, 20)

    def test_step_by_step(self):
        for unseen in [*cases(low=1), *[wide_unseen(number) for number in range(150)]]:
            way = steps_from_the_lows(unseen)
            floors = [floor_by_hand(web, starts, needs) for web, needs, starts in way]
            self.assertTrue(all(two - one in (0, 1) for one, two in zip(floors, floors[1:])))
            for goal in range(floors[0], floors[-1] + 1):
                self.same(world_with_rooms(unseen, goal), way[floors.index(goal)])
            for goal in (floors[0] - 1, floors[-1] + 1, floors[-1] + MOST):
                if goal >= 0:
                    self.raises(NoneSuch("goal"), world_with_rooms, unseen, goal)

    def test_example(self):
        unseen = Unseen(EXAMPLE, TIMES, notes=Notes((1, 1, 1, 1), (1, 2, 1, 1)))
        web, needs, starts = world_with_rooms(unseen, 3)
        got = (unseen.is_safe(), lowest_rooms(unseen), highest_rooms(unseen), web.many_clashes, needs, starts,
               slack_over(unseen, 3))
        self.same(got, (True, 2, 3, 3, (1, 2, 1, 1), (1, 1, 1, 1), (0, 1)))

    def test_errors(self):
        unseen = Unseen(EXAMPLE, TIMES, notes=Notes((1, 1, 0, 1), (1, 2, 1, 1)))
        for value in (-1, *NO_INTEGERS):
            self.raises(BadNumber("goal"), world_with_rooms, unseen, value)
        self.raises(NoneSuch("lows"), world_with_rooms, unseen, 10 ** 9)
        self.raises(NoneSuch("lows"), world_with_rooms, Unseen(EXAMPLE, TIMES, notes=Notes.just((1, 1, 1, 2))), 2)
        self.raises(NoneSuch("goal"), world_with_rooms, Unseen(EXAMPLE, TIMES), 1)

    def test_great_numbers(self):
        maybe_web = MaybeWeb.below(Web.line(16))
        unseen = Unseen(maybe_web, anywhen(16), notes=Notes((1,) * 16, (MOST,) * 16),
                        starts=Notes((1,) * 16, (MOST,) * 16))
        self.same((lowest_rooms(unseen), highest_rooms(unseen)), (1, 3 * MOST - 1))
        web, needs, starts = world_with_rooms(unseen, MOST - 5)
        self.same((web, needs, starts), (Web.line(16), (1,) * 16, (MOST - 5,) + (1,) * 15))
        web, needs, starts = world_with_rooms(unseen, 2 * MOST + 7)
        self.same((needs, starts), ((MOST, 8) + (1,) * 14, (MOST,) * 16))
        self.same(floor(web, starts, needs), 2 * MOST + 7)

    def test_many_full_knots_and_starts(self):
        pairs = [(x, y) for y in range(16) for x in range(y) if x // 2 != y // 2]
        unseen = Unseen(MaybeWeb(16, (), pairs), anywhen(16), notes=Notes((1,) * 16, (10 ** 9,) * 16),
                        starts=Notes(tuple(range(1, 17)), tuple(range(MOST, MOST + 16))))
        goal = highest_rooms(unseen) - 1
        web, needs, starts = world_with_rooms(unseen, goal)
        self.same(floor(web, starts, needs), goal)

    def test_edges(self):
        none = Unseen(MaybeWeb(0), anywhen(0))
        self.same((lowest_rooms(none), highest_rooms(none), world_with_rooms(none, 0)), (0, 0, (Web(0), (), ())))
        self.raises(NoneSuch("goal"), world_with_rooms, none, 1)
        one = Unseen(MaybeWeb(1), anywhen(1), notes=Notes((1,), (3,)), starts=Notes((2,), (4,)))
        self.same([world_with_rooms(one, goal) for goal in range(2, 7)],
                  [(Web(1), (1,), (2,)), (Web(1), (1,), (3,)), (Web(1), (1,), (4,)), (Web(1), (2,), (4,)),
                   (Web(1), (3,), (4,))])


class Slack(Case):
    def slacks(self, unseen, thing):
        """The slack of the thing in all worlds at all needs."""
        found = set()
        for web in worlds_of(unseen):
            for needs in all_between(unseen.notes):
                found.add(heaviest_weight(web, needs) - heaviest_weight(web, needs, (thing,)))
        return found

    def test_all_worlds_and_needs(self):
        for unseen in cases(starting=False):
            if len(all_between(unseen.notes)) * 2 ** len(unseen.maybe_web.maybe) > 600:
                continue
            for thing in range(unseen.maybe_web.many):
                slacks = self.slacks(unseen, thing)
                self.same(slack_over(unseen, thing), (min(slacks), max(slacks)))
                self.same(critical_in_some(unseen, thing), 0 in slacks)
                self.same(critical_in_all(unseen, thing), slacks == {0})

    def test_arrivals_have_no_effect(self):
        notes = Notes((0, 1, 2, 0), (2, 1, 3, 4))
        for thing in range(4):
            told = {slack_over(Unseen(EXAMPLE, arrivals, notes=notes), thing) for arrivals in (TIMES, anywhen(4))}
            self.assertEqual(len(told), 1)

    def test_errors(self):
        late = Unseen(EXAMPLE, TIMES, starts=Notes((1,) * 4, (1, 1, 2, 1)))
        for call in (slack_over, critical_in_some, critical_in_all):
            for value in (-1, 4, *NO_INTEGERS):
                self.raises(BadThing(value), call, late, value)
            self.raises(NoneSuch("starts"), call, late, 0)
            self.raises(NoneSuch("starts"), call, Unseen(EXAMPLE, TIMES, starts=Notes.just((2,) * 4)), 0)

    def test_edges(self):
        one = Unseen(MaybeWeb(1), anywhen(1), notes=Notes((0,), (MOST,)))
        self.same((slack_over(one, 0), critical_in_some(one, 0), critical_in_all(one, 0)), ((0, 0), True, True))
        two = Unseen(MaybeWeb(2), anywhen(2), notes=Notes((0, 5), (MOST, 5)))
        self.same((slack_over(two, 0), slack_over(two, 1)), ((0, 5), (0, MOST - 5)))
        self.same((critical_in_some(two, 0), critical_in_all(two, 0)), (True, False))
        never = Unseen(MaybeWeb(2), anywhen(2), notes=Notes((0, 5), (4, 6)))
        self.same((slack_over(never, 0), critical_in_some(never, 0)), ((1, 6), False))

    def test_sixteen_things(self):
        pairs = [(x, y) for y in range(16) for x in range(y) if x // 2 != y // 2]
        unseen = Unseen(MaybeWeb(16, (), pairs), anywhen(16), notes=Notes((1,) * 16, (MOST,) * 16))
        self.same(slack_over(unseen, 3), (0, 8 * MOST - 1))


if __name__ == "__main__":
    unittest.main()
