"""perfectorders/desks.py: the questions, what_if, told, the room shown. [137], [138], [141], [142], [145], [146]."""

import unittest
from random import Random

from perfectorders.desks import Desk
from perfectorders.errors import BadDeed, BadNumber, BadPart, BadThing, BadWeb, NotRight
from perfectorders.maybes import MaybeWeb
from perfectorders.starts import StartBook
from perfectorders.webs import Web
from tests.by_hand import Case, NO_INTEGERS, first_lot_by_hand, heaviest_weight, spans_of_rooms
from tests.desk_by_hand import do_on, everything, made_anew, some_deed, some_plain, whole_order
from tests.test_desks import desk_of, played

WITHOUT = ("order_now", "needs_now", "starts_now", "strangers_now", "standing", "deeds", "room_count_now",
           "is_right_now", "is_safe_now", "ends_now", "price_now", "core_now")


def new_thing(chance, plain):
    near = [thing for thing in plain.row if chance.random() < 0.4]
    maybe = [thing for thing in plain.row if thing not in near and chance.random() < 0.3]
    chance.shuffle(near)
    return near, maybe


class Questions(Case):
    def test_from_what_stands(self):
        for number in range(40):
            desk, plain = played(number, 8)
            held = plain.held()
            self.same(desk.book().spans, spans_of_rooms(held))
            self.assertIsInstance(desk.book(), StartBook)
            self.same((desk.book().order, desk.book().starts, desk.book().needs),
                      (whole_order(desk), tuple(plain.starts), tuple(plain.needs)))
            self.same((desk.room_count_now(), desk.is_right_now(), desk.is_safe_now(), desk.core_now()),
                      (plain.rooms(), plain.bad_row() is None, plain.against() is None, plain.core()))
            for room in range(1, plain.rooms() + 3):
                self.same(desk.lot(room), tuple(x for x in range(plain.many) if room in held[x]))
            strangers = sum(plain.needs[x] for x in plain.strangers)
            off = [0 if x in plain.strangers else need for x, need in enumerate(plain.needs)]
            self.same(desk.price_now(), (plain.floor(plain.high(), off), strangers))
            if plain.against() is None:
                ends = (plain.floor(plain.low(), plain.needs), plain.floor(plain.high(), plain.needs))
                self.same(desk.ends_now(), ends)
            else:
                self.raises(NotRight(plain.against()), desk.ends_now)

    def test_rows_against_a_desk(self):
        """The least row, else the least three, of the highest and all other worlds."""
        desk = Desk(4, clashes=[(0, 1)], maybes=[(1, 2), (2, 3)])
        desk.move(3, 0)
        self.same((desk.is_right_now(), desk.is_safe_now()), (True, False))
        self.raises(NotRight((0, 1, 2, 3)), desk.ends_now)
        desk.start(0, 3)
        self.raises(NotRight((0, 1, 2, 3)), desk.ends_now)
        desk = Desk(3, maybes=[(0, 1), (1, 2)])
        desk.move(1, 2)
        self.same(desk.ends_now(), (1, 2))
        desk.start(2, 2)
        self.raises(NotRight((2, 1, 0)), desk.ends_now)
        desk.start(0, 2)
        self.same(desk.ends_now(), (2, 2))

    def test_ends_over_all_worlds(self):
        for number in range(40):
            chance = Random(number)
            plain = some_plain(chance, 4, 0.3, 0.4)
            desk = desk_of(plain)
            for thing in range(4):
                desk.need(thing, chance.randrange(4))
                desk.start(thing, chance.randrange(1, 3) if number % 2 else 1)
            if not desk.is_safe_now():
                continue
            counts = [StartBook(whole_order(desk).on(web), desk.starts_now, desk.needs_now).room_count
                      for web in desk.held.worlds()]
            self.same((min(counts), max(counts)), desk.ends_now())

    def test_places(self):
        """By coming at every place on a twin."""
        kinds = set()
        for number in range(80):
            chance = Random(number)
            desk, plain = played(number, 4 + number % 4)
            near, maybe = new_thing(chance, plain)
            safe = []
            right = []
            for place in range(len(plain.row) + 1):
                twin = desk.twin()
                twin.come(near, place, maybe=maybe)
                if twin.is_safe_now():
                    safe.append(place)
                if twin.is_right_now():
                    right.append(place)
            self.same(desk.places_safe(near, maybe), tuple(safe))
            self.same(plain.safe_places(near, maybe), tuple(safe))
            if safe:
                self.same(safe, list(range(safe[0], safe[-1] + 1)))
            if not desk.is_safe_now():
                self.same(desk.places_safe(near, maybe), ())
            if desk.is_right_now():
                self.same(desk.places_now(near, maybe), (right[0], right[-1]) if right else None)
                self.same(right, list(range(right[0], right[-1] + 1)) if right else [])
            else:
                self.raises(NotRight(plain.bad_row()), desk.places_now, near, maybe)
            kinds |= {(desk.is_safe_now(), desk.is_right_now(), bool(safe), bool(right))}
        self.assertGreater(len(kinds), 3)

    def test_places_without_maybes(self):
        desk = Desk(2, clashes=[(0, 1)])
        self.same((desk.places_safe([0]), desk.places_now([0]), desk.places_safe(()), desk.places_now((), ())),
                  ((0, 1, 2), (0, 2), (0, 1, 2), (0, 2)))
        self.same((Desk().places_now(()), Desk().places_safe(())), ((0, 0), (0,)))

    def test_starts_and_safe_places(self):
        desk = Desk(2)
        desk.start(0, 5)
        # The new thing must not be behind thing 1 if both starts of its neighbours are unlike.
        self.same(desk.places_safe((0, 1)), (0, 1))
        self.same(desk.places_safe((), (0, 1)), (0, 1))
        self.same(desk.places_now((0, 1)), (0, 2))
        desk.start(1, 5)
        self.same(desk.places_safe((0, 1)), (0, 1, 2))

    def test_same_desks_same_answers(self):
        for number in range(20):
            desk, plain = played(number)
            other = made_anew(desk)
            near, maybe = new_thing(Random(number), plain)
            for question, rest in (("lot", (2,)), ("price_now", ()), ("core_now", ()), ("places_safe", (near, maybe)),
                                   ("order_now", ()), ("needs_now", ()), ("room_count_now", ())):
                self.same(desk.ask(question, *rest), other.ask(question, *rest))

    def test_objects_told(self):
        desk, _ = played(3)
        self.assertIsInstance(desk.held, MaybeWeb)
        self.same(desk.web_now, desk.held.lowest())


class Shown(Case):
    def test_the_room_shown(self):
        desk = Desk(3, clashes=[(0, 1), (1, 2)], shown=2)
        self.same((desk.shown, desk.lot(), desk.show(1), desk.shown, desk.lot(), desk.lot(None)),
                  (2, (1,), 1, 1, (0, 2), (0, 2)))
        desk.shown = 7
        self.same((desk.shown, desk.lot(), desk.standing), (7, (), 0))
        self.same((desk.mark(0), desk.shown, desk.undo(), desk.shown), (("strangers 1",), 7, ("strangers 0",), 7))
        self.same((desk.show(10 ** 14), desk.lot()), (10 ** 14, ()))

    def test_it_is_no_deed(self):
        desk = Desk(1)
        desk.mark(0)
        desk.show(5)
        desk.undo()
        self.same((desk.shown, desk.deeds()), (5, ()))

    def test_errors(self):
        desk = Desk(2, shown=3)
        for value in (0, -1, *NO_INTEGERS):
            self.raises(BadNumber("shown"), desk.show, value)
            with self.assertRaises(BadNumber) as caught:
                desk.shown = value
            self.same((caught.exception.name, desk.shown), ("shown", 3))
            if value is not None:
                self.raises(BadNumber("room"), desk.lot, value)
                self.raises(BadNumber("room"), desk.ask, "lot", value)
                self.raises(BadNumber("room"), lambda room: desk.told(lot=room), value)


class Told(Case):
    def test_answers_in_their_order(self):
        for number in range(30):
            desk, plain = played(number, 8)
            if not plain.row:
                continue
            chance = Random(number)
            thing = chance.choice(plain.row)
            things = chance.sample(plain.row, chance.randrange(len(plain.row) + 1))
            slack = heaviest_weight(plain.low(), plain.needs) - heaviest_weight(plain.low(), plain.needs, (thing,))
            first = first_lot_by_hand(plain.low(), plain.whole(), things)
            self.same(desk.told(first=things, lot=2, slack_of=thing), (desk.lot(2), slack, first))
            self.same(desk.told(slack_of=thing, first=tuple(things)), (slack, first))
            self.same((desk.told(), desk.told(lot=None), desk.told(first=())), ((), (desk.lot(),), ((),)))

    def test_starts_have_no_effect_on_slack(self):
        desk = Desk(2)
        desk.need(0, 5)
        desk.start(1, 9)
        self.same(desk.told(slack_of=1), (4,))

    def test_errors(self):
        desk = Desk(3)
        desk.go(1)
        self.raises(BadDeed("slack"), lambda: desk.told(lot=0, slack=9, more=1, first=(9,)))
        self.raises(BadDeed("more"), lambda: desk.told(more=1, slack=9))
        self.raises(BadNumber("room"), lambda: desk.told(first=(9,), slack_of=9, lot=0))
        for value in (1, 3, -1, *NO_INTEGERS):
            self.raises(BadThing(value), lambda value=value: desk.told(first=(9,), slack_of=value, lot=1))
            self.raises(BadPart(1), lambda value=value: desk.told(first=(0, value), slack_of=2, lot=1))
        self.raises(BadPart(1), lambda: desk.told(first=[2, 2]))


class Numbered(Case):
    def test_news_of(self):
        desk = Desk(2)
        self.raises(BadNumber("number"), desk.news_of, 0)
        desk.mark(0)
        desk.need(1, 4)
        self.same((desk.news_of(0), desk.news_of(1)), (("strangers 1",), ("rooms 4",)))
        for value in (2, -1, *NO_INTEGERS):
            self.raises(BadNumber("number"), desk.news_of, value)

    def test_arguments_of_deeds(self):
        desk = Desk(3, maybes=[(0, 2)])
        desk.come([2, 1], maybe=(0,)), desk.come((), 0, need=7), desk.go(1), desk.move(0, 3), desk.need(0, 2)
        desk.start(2, 3), desk.settle(2, 0, False), desk.mark(3), desk.unmark(3)
        self.same(desk.deeds(), (("come", ((1, 2), None, (0,), 1)), ("come", ((), 0, (), 7)), ("go", (1,)), ("move", (0, 3)),
                                 ("need", (0, 2)), ("start", (2, 3)), ("settle", (2, 0, False)), ("mark", (3,)),
                                 ("unmark", (3,))))

    def test_done_again(self):
        """The deeds that stand, done on a new desk, lead to the same desk with the same news."""
        for number in range(20):
            chance = Random(number)
            plain = some_plain(chance, number % 6)
            desk, other = desk_of(plain), desk_of(plain)
            for _ in range(9):
                name, arguments = some_deed(chance, plain)
                plain.do(name, arguments)
                do_on(desk, name, arguments)
            for name, arguments in desk.deeds():
                other.do(name, arguments)
            self.same(everything(other), everything(desk))


class Asked(Case):
    def test_by_name(self):
        for number in range(20):
            desk, plain = played(number)
            for name in WITHOUT:
                if name == "ends_now" and not desk.is_safe_now():
                    self.raises(NotRight(plain.against()), desk.ask, name)
                    continue
                told = getattr(desk, name)
                self.same(desk.ask(name), told() if callable(told) else told)
            near, maybe = new_thing(Random(number), plain)
            self.same((desk.ask("lot"), desk.ask("lot", None), desk.ask("lot", 2)), (desk.lot(), desk.lot(), desk.lot(2)))
            self.same(desk.ask("places_safe", near, maybe), desk.places_safe(near, maybe))
            self.same(desk.ask("places_safe", near), desk.places_safe(near))
            if desk.is_right_now():
                self.same(desk.ask("places_now", near, maybe), desk.places_now(near, maybe))
                self.same(desk.ask("places_now", near), desk.places_now(near))

    def test_no_such_question(self):
        desk = Desk(2)
        for name in ("", "Lot", "book", "held", "web_now", "shown", "told", "same_as", "news_of", "come", "undo", "twin",
                     "what_if", None, 3, True, ["lot"], ("lot",), {}, {"lot"}, desk):
            self.raises(BadDeed(name), desk.ask, name)
            self.raises(BadDeed(name), desk.what_if, [], name)
        for name in WITHOUT:
            self.raises(BadDeed(name), desk.ask, name, 1)
            self.raises(BadDeed(name), desk.what_if, (), name, 1)
        for name, rest in (("lot", (1, 2)), ("places_now", ()), ("places_now", ((), (), ())), ("places_safe", ()),
                           ("places_safe", ((), (), 1))):
            self.raises(BadDeed(name), desk.ask, name, *rest)

    def test_what_the_question_raises(self):
        desk = Desk(2)
        self.raises(BadPart(0), desk.ask, "places_now", (7,))
        self.raises(BadWeb(2, 1), desk.ask, "places_safe", [1], [1])


class WhatIf(Case):
    def test_as_on_a_twin(self):
        for number in range(30):
            chance = Random(number)
            desk, plain = played(number, 4)
            told = everything(desk)
            deeds = []
            for _ in range(chance.randrange(5)):
                name, arguments = some_deed(chance, plain)
                plain.do(name, arguments)
                deeds.append([name, list(arguments)])
            twin = desk.twin()
            for name, arguments in deeds:
                twin.do(name, arguments)
            for name in WITHOUT:
                if name != "ends_now" or twin.is_safe_now():
                    self.same(desk.what_if(deeds, name), twin.ask(name))
                else:
                    self.raises(NotRight(plain.against()), desk.what_if, deeds, name)
            self.same(desk.what_if(deeds, "lot", 1), twin.lot(1))
            self.same(desk.what_if(tuple(deeds), "places_safe", ()), twin.places_safe(()))
            self.same(everything(desk), told)

    def test_undo_of_what_stands(self):
        desk = Desk(2)
        desk.need(0, 5), desk.need(1, 9)
        told = everything(desk)
        self.same(desk.what_if([("undo", ())], "room_count_now"), 5)
        self.same(desk.what_if([("undo", (2,)), ("mark", (1,))], "deeds"), (("mark", (1,)),))
        self.same(desk.what_if((), "room_count_now"), 9)
        self.raises(BadNumber("many"), desk.what_if, [("undo", (1,)), ("undo", (2,))], "deeds")
        self.same(everything(desk), told)

    def test_the_room_shown(self):
        desk = Desk(2, clashes=[(0, 1)], shown=2)
        self.same((desk.what_if([("move", (1, 0))], "lot"), desk.lot(), desk.standing), ((0,), (1,), 0))

    def test_errors(self):
        desk = Desk(3)
        told = everything(desk)
        self.raises(BadDeed("gone"), desk.what_if, [("go", (9,)), ("gone", (1,)), ("mark", ())], "nothing")
        self.raises(BadDeed("mark"), desk.what_if, [("go", (9,)), ("mark", ()), ("gone", (1,))], "lot", 1, 2)
        self.raises(BadDeed("nothing"), desk.what_if, [("go", (9,))], "nothing")
        self.raises(BadDeed("lot"), desk.what_if, [("go", (9,))], "lot", 1, 2)
        self.raises(BadThing(9), desk.what_if, [("go", (1,)), ("go", (9,)), ("mark", (7,))], "lot", 0)
        self.raises(BadThing(1), desk.what_if, [("go", (1,)), ("go", (1,))], "order_now")
        self.raises(BadNumber("room"), desk.what_if, [("go", (1,))], "lot", 0)
        self.same(everything(desk), told)


if __name__ == "__main__":
    unittest.main()
