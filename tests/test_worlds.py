"""perfectorders/worlds.py: [54] ends, [55] slack, [56] critical over all worlds, [59] any size, [60] arguments."""

import unittest
from functools import lru_cache
from itertools import product

from perfectorders.errors import BadNotes, BadNumber, BadThing, NoneSuch
from perfectorders.notes import Notes
from perfectorders.webs import Web
from perfectorders.worlds import (can_be_critical, critical_paper, must_be_critical, room_ends_of, slack_ends,
                                  slack_worlds, world_of_slack, world_with)
from tests import by_hand
from tests.by_hand import Case, NO_INTEGERS, all_webs, full_sets, sets_of, some_webs

LINE = Web.line(3)
NOTES = Notes((0, 1, 1), (2, 1, 3))
MOST = 10 ** 12


@lru_cache(maxsize=None)
def heavy(web_key, needs, holding=()):
    return by_hand.heaviest_weight(Web(*web_key), needs, holding)


def heaviest(web, needs, holding=()):
    return heavy((web.many, web.clashes), tuple(needs), holding)


def slack_in(web, needs, thing):
    return heaviest(web, needs) - heaviest(web, needs, (thing,))


def cases():
    """Webs with notes between small lows and highs."""
    for web in all_webs(3):
        lows = list(product(range(3), repeat=web.many))
        for place, low in enumerate(lows[::4]):
            step = lows[(place * 5 + 3) % len(lows)]
            yield web, Notes(low, [one + two for one, two in zip(low, step)])
    for place, web in enumerate([*some_webs(3, 4), *some_webs(89)]):
        low = [(thing * 7 + place) % 3 for thing in range(web.many)]
        step = [(thing * 3 + place) % 3 for thing in range(web.many)]
        yield web, Notes(low, [one + two for one, two in zip(low, step)])


def worlds_of(notes):
    return list(product(*[range(least, most + 1) for least, most in zip(notes.low, notes.high)]))


def raised_to(web, notes, goal):
    """The world of [54], unit by unit."""
    world = list(notes.low)
    while heaviest(web, world) != goal:
        thing = min(x for x in range(web.many) if world[x] < notes.high[x])
        world[thing] += 1
    return tuple(world)


def slack_worlds_by_hand(web, notes, thing):
    ends = [slack_in(web, world, thing) for world in worlds_of(notes)]
    knots = full_sets(web, range(web.many), by_hand.is_knot)
    lowest = min(knot for knot in knots
                 if thing in knot and slack_in(web, notes.high_on(knot), thing) == min(ends))
    highest = min(knot for knot in knots if slack_in(web, notes.high_on(knot), thing) == max(ends))
    return ((notes.high_on(lowest), lowest), (notes.high_on(highest), highest))


def changed_to(web, notes, thing, goal):
    """The world of [55], unit by unit."""
    (world, _), (final, _) = slack_worlds_by_hand(web, notes, thing)
    world = list(world)
    while slack_in(web, world, thing) != goal:
        other = min(x for x in range(web.many) if world[x] != final[x])
        world[other] += 1 if world[other] < final[other] else -1
    return tuple(world)


class Ends(Case):
    def test_room_ends(self):
        for web, notes in cases():
            weights = [heaviest(web, world) for world in worlds_of(notes)]
            self.same(room_ends_of(web, notes), (min(weights), max(weights)))
            self.same(sorted(set(weights)), list(range(min(weights), max(weights) + 1)))

    def test_worlds_with_a_goal(self):
        for web, notes in cases():
            least, most = room_ends_of(web, notes)
            for goal in range(least, most + 1):
                self.same(world_with(web, notes, goal), raised_to(web, notes, goal))
            self.raises(NoneSuch("goal"), world_with, web, notes, most + 1)
            if least:
                self.raises(NoneSuch("goal"), world_with, web, notes, least - 1)

    def test_the_document_s_example(self):
        self.same((room_ends_of(LINE, NOTES), world_with(LINE, NOTES, 3), slack_worlds(LINE, NOTES, 0),
                   world_of_slack(LINE, NOTES, 0, 2)),
                  ((2, 4), (2, 1, 1), (((2, 1, 1), (0, 1)), ((0, 1, 3), (1, 2))), (0, 1, 2)))

    def test_great_notes(self):
        notes = Notes((0, 0, MOST), (MOST, MOST, MOST))
        self.same((room_ends_of(LINE, notes), world_with(LINE, notes, MOST), world_with(LINE, notes, MOST + 7)),
                  ((MOST, 2 * MOST), (0, 0, MOST), (MOST, 7, MOST)))
        self.same(world_with(LINE, notes, 2 * MOST), (MOST, MOST, MOST))

    def test_no_thing(self):
        notes = Notes((), ())
        self.same((room_ends_of(Web(0), notes), world_with(Web(0), notes, 0)), ((0, 0), ()))
        self.raises(NoneSuch("goal"), world_with, Web(0), notes, 1)
        self.raises(BadThing(0), slack_ends, Web(0), notes, 0)

    def test_errors_in_order(self):
        for low in ((0, 0), (0, 0, 0, 0)):
            notes = Notes(low, low)
            self.raises(BadNotes(min(3, len(low))), room_ends_of, LINE, notes)
            self.raises(BadNotes(min(3, len(low))), world_with, LINE, notes, -1)
            for call in (slack_ends, slack_worlds, can_be_critical, must_be_critical, critical_paper):
                self.raises(BadNotes(min(3, len(low))), call, LINE, notes, 9)
            self.raises(BadNotes(min(3, len(low))), world_of_slack, LINE, notes, 9, -1)
        for goal in (-1, *NO_INTEGERS):
            self.raises(BadNumber("goal"), world_with, LINE, NOTES, goal)
            self.raises(BadNumber("goal"), world_of_slack, LINE, NOTES, 0, goal)
        for thing in (3, -1, *NO_INTEGERS):
            for call in (slack_ends, slack_worlds, can_be_critical, must_be_critical, critical_paper):
                self.raises(BadThing(thing), call, LINE, NOTES, thing)
            self.raises(BadThing(thing), world_of_slack, LINE, NOTES, thing, -1)


class Slack(Case):
    def test_ends_over_all_worlds(self):
        for web, notes in cases():
            for thing in range(web.many):
                slacks = [slack_in(web, world, thing) for world in worlds_of(notes)]
                self.same(slack_ends(web, notes, thing), (min(slacks), max(slacks)))
                self.same(slack_worlds(web, notes, thing), slack_worlds_by_hand(web, notes, thing))

    def test_worlds_of_slack(self):
        for web, notes in cases():
            for thing in range(web.many):
                least, most = slack_ends(web, notes, thing)
                for goal in range(least, most + 1):
                    self.same(world_of_slack(web, notes, thing, goal), changed_to(web, notes, thing, goal))
                self.raises(NoneSuch("goal"), world_of_slack, web, notes, thing, most + 1)
                if least:
                    self.raises(NoneSuch("goal"), world_of_slack, web, notes, thing, least - 1)

    def test_wide_notes(self):
        """Needs that go up and down on the way, with slack that grows by one of them alone."""
        webs = [Web.line(4), Web.ring(5), Web.star(4), Web(4, [(0, 1), (1, 2), (0, 2)]), Web.line(2) + Web.line(2)]
        for place, web in enumerate(webs):
            low = [(thing * 5 + place) % 4 for thing in range(web.many)]
            notes = Notes(low, [need + 2 + (thing + place) % 3 for thing, need in enumerate(low)])
            for thing in range(web.many):
                (first, _), (final, _) = slack_worlds(web, notes, thing)
                ends = [slack_in(web, world, thing) for world in worlds_of(notes)]
                self.same(slack_ends(web, notes, thing), (min(ends), max(ends)))
                for goal in range(min(ends), max(ends) + 1):
                    self.same(world_of_slack(web, notes, thing, goal), changed_to(web, notes, thing, goal))

    def test_any_size(self):
        k = MOST // 5
        for web, notes in list(cases())[::3]:
            great = Notes([need * k for need in notes.low], [need * k for need in notes.high])
            least, most = room_ends_of(web, notes)
            self.same(room_ends_of(web, great), (least * k, most * k))
            for goal in range(least, most + 1):
                self.same(world_with(web, great, goal * k),
                          tuple(need * k for need in world_with(web, notes, goal)))
            for thing in range(web.many):
                self.same(slack_ends(web, great, thing), tuple(end * k for end in slack_ends(web, notes, thing)))
                self.same([knot for _, knot in slack_worlds(web, great, thing)],
                          [knot for _, knot in slack_worlds(web, notes, thing)])
                least, most = slack_ends(web, notes, thing)
                for goal in range(least, most + 1):
                    self.same(world_of_slack(web, great, thing, goal * k),
                              tuple(need * k for need in world_of_slack(web, notes, thing, goal)))

    def test_sixteen_things(self):
        web = Web(16, [(x, y) for x in range(16) for y in range(x + 1, 16) if x // 3 != y // 3])
        notes = Notes((0,) * 16, (MOST,) * 16)
        self.same(slack_ends(web, notes, 0), (0, MOST))
        # The need of thing 0 falls to 0 at no slack, then that of thing 1 grows.
        high = tuple(MOST if thing % 3 == 0 and thing > 0 else 0 for thing in range(16))
        self.same(world_of_slack(web, notes, 0, 5), (0, 5, *high[2:]))

    def test_settled_notes(self):
        for web, notes in list(cases())[::5]:
            settled = Notes.just(notes.high)
            for thing in range(web.many):
                own = slack_in(web, notes.high, thing)
                self.same(slack_ends(web, settled, thing), (own, own))
                self.same(world_of_slack(web, settled, thing, own), notes.high)


class Critical(Case):
    def test_over_all_worlds(self):
        for web, notes in cases():
            knots = full_sets(web, range(web.many), by_hand.is_knot)
            for thing in range(web.many):
                told = [slack_in(web, world, thing) == 0 for world in worlds_of(notes)]
                self.same(can_be_critical(web, notes, thing), any(told))
                self.same(must_be_critical(web, notes, thing), all(told))
                papers = []
                for knot in knots:
                    world = notes.high_on(knot)
                    if thing in knot and by_hand.weight_of(world, knot) == heaviest(web, world):
                        papers.append(knot)
                self.same(critical_paper(web, notes, thing), min(papers) if papers else None)
                self.same(bool(papers), any(told))

    def test_the_knot_itself_must_be_heaviest(self):
        # With the highs on (0, 1) thing 0 is critical by the knot (0, 2), which is no paper yet.
        web = Web(3, [(0, 1), (0, 2)])
        notes = Notes((1, 0, 5), (1, 1, 5))
        self.same((critical_paper(web, notes, 0), can_be_critical(web, notes, 0)), ((0, 2), True))
        self.same((critical_paper(web, notes, 1), can_be_critical(web, notes, 1)), (None, False))

    def test_all_knots_in_place_of_the_full_ones(self):
        for web, notes in list(cases())[::3]:
            for thing in range(web.many):
                knots = sets_of(web, range(web.many), by_hand.is_knot)
                most = max(by_hand.weight_of(notes.high_on(knot), knot)
                           - heaviest(web, notes.high_on(knot), (thing,)) for knot in knots)
                least = min(heaviest(web, notes.high_on(knot)) - by_hand.weight_of(notes.high_on(knot), knot)
                            for knot in knots if thing in knot)
                self.same(slack_ends(web, notes, thing), (least, most))

    def test_one_thing(self):
        notes = Notes((0,), (MOST,))
        self.same((can_be_critical(Web(1), notes, 0), must_be_critical(Web(1), notes, 0),
                   critical_paper(Web(1), notes, 0), slack_ends(Web(1), notes, 0), world_of_slack(Web(1), notes, 0, 0)),
                  (True, True, (0,), (0, 0), (MOST,)))


if __name__ == "__main__":
    unittest.main()
