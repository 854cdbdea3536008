"""perfectorders/desks.py: the deeds, their news, undo. [136] desks, [138] to [141], [143] to [146], [108], [110]."""

import unittest
from random import Random

from perfectorders.desks import Desk
from perfectorders.errors import (BadDeed, BadNeeds, BadNumber, BadPart, BadThing, BadWeb, NoneSuch, NoPlace, NotRight,
                                  OrdersError)
from perfectorders.places import Stretch
from perfectorders.webs import Web
from tests.by_hand import Case, NO_INTEGERS, floor_by_hand, heaviest_weight
from tests.desk_by_hand import (Plain, do_on, everything, made_anew, news_by_hand, some_deed, some_plain, told_of)

MOST = 10 ** 12


def desk_of(plain):
    return Desk(plain.many, clashes=sorted(plain.sure), maybes=sorted(plain.maybe))


def played(number, deeds=9, many=5):
    """A Desk and a Plain one behind the same deeds."""
    chance = Random(number)
    plain = some_plain(chance, number % (many + 1))
    desk = desk_of(plain)
    for _ in range(deeds):
        name, arguments = some_deed(chance, plain)
        plain.do(name, arguments)
        do_on(desk, name, arguments)
    return desk, plain


class Agree(Case):
    """Comparisons of a Desk with a Plain one."""

    def agree(self, desk, plain):
        self.same(told_of(desk)[:8],
                  (plain.many, tuple(sorted(plain.sure)), tuple(sorted(plain.maybe)), plain.low(), tuple(plain.row),
                   tuple(plain.needs), tuple(plain.starts), tuple(sorted(plain.strangers))))
        self.same((desk.room_count_now(), desk.is_right_now(), desk.is_safe_now(), desk.core_now()),
                  (plain.rooms(), plain.bad_row() is None, plain.against() is None, plain.core()))


class Deeds(Agree):
    def test_one_after_another(self):
        """Each deed by its words, and its news by asking ahead of it and behind it."""
        seen = set()
        for number in range(40):
            chance = Random(number)
            plain = some_plain(chance, number % 6)
            desk = desk_of(plain)
            self.agree(desk, plain)
            deeds, all_news = [], []
            for _ in range(10):
                name, arguments = some_deed(chance, plain)
                before = plain.copy()
                stretch = None
                if name == "come" and arguments[1] is None:
                    places = plain.right_places(arguments[0])
                    stretch = (places[0], places[-1])
                plain.do(name, arguments)
                news = do_on(desk, name, arguments)
                self.agree(desk, plain)
                self.same(news, news_by_hand(before, plain, stretch))
                if name == "come":
                    near, place, maybe, need = arguments
                    arguments = (tuple(sorted(near)), place, tuple(sorted(maybe)), need)
                deeds.append((name, arguments))
                all_news.append(news)
                seen |= {(name, word.split()[0]) for word in news}
                self.same((desk.standing, desk.deeds(), [desk.news_of(k) for k in range(len(deeds))]),
                          (len(deeds), tuple(deeds), all_news))
        words = {word for _, word in seen}
        self.assertEqual(words, {"rooms", "right", "row", "safe", "unsafe", "stretch", "core", "strangers"})

    def test_by_name(self):
        """do(..) returns and changes what the deed's own method does."""
        for number in range(25):
            chance = Random(100 + number)
            plain = some_plain(chance, number % 6)
            desk, other = desk_of(plain), desk_of(plain)
            for _ in range(8):
                name, arguments = some_deed(chance, plain)
                plain.do(name, arguments)
                self.same(other.do(name, list(arguments)), do_on(desk, name, arguments))
                self.same(everything(other), everything(desk))

    def test_come_by_name_with_fewer_arguments(self):
        for arguments, told in ((((0,),), ((0,), None, (), 1)), (([1], 0), ((1,), 0, (), 1)),
                                (([1], 2, (0,)), ((1,), 2, (0,), 1)), (((), 1, [1, 0], 5), ((), 1, (0, 1), 5))):
            desk = Desk(2)
            desk.do("come", arguments)
            self.same(desk.deeds(), (("come", told),))
        desk = Desk(3)
        desk.do("go", (0,))
        desk.do("go", [1])
        self.same((desk.do("undo", ()), desk.standing, desk.do("undo", [1]), desk.standing), ((), 1, (), 0))

    def test_take_back(self):
        for number in range(30):
            chance = Random(number + 50)
            plain = some_plain(chance, number % 6)
            desk = desk_of(plain)
            states, told = [plain.copy()], [everything(desk)]
            for _ in range(8):
                name, arguments = some_deed(chance, plain)
                plain.do(name, arguments)
                do_on(desk, name, arguments)
                states.append(plain.copy())
                told.append(everything(desk))
            while len(states) > 1:
                many = chance.randrange(1, min(4, len(states)))
                after, before = states[-1 - many], states[-1]
                news = desk.undo() if many == 1 and number % 2 else desk.undo(many)
                self.same(news, news_by_hand(before, after))
                del states[-many:], told[-many:]
                self.same(everything(desk), told[-1])
                self.agree(desk, states[-1])

    def test_all_at_once(self):
        for number in range(12):
            chance = Random(number)
            plain = some_plain(chance, number % 6)
            first = plain.copy()
            desk = desk_of(plain)
            for _ in range(9):
                name, arguments = some_deed(chance, plain)
                plain.do(name, arguments)
                do_on(desk, name, arguments)
            self.same(desk.undo(desk.standing), news_by_hand(plain, first))
            self.same(everything(desk), everything(desk_of(first)))

    def test_example(self):
        desk = Desk(3, clashes=[(0, 1), (1, 2)])
        got = (desk.come((2,), 0), desk.undo(), desk.places_now((2,)), desk.come((2,)), desk.order_now)
        self.same(got, (("rooms 3", "row 0 1 2 3", "unsafe"), ("rooms 2", "right", "safe"), (3, 3), ("stretch 3 3",),
                        (0, 1, 2, 3)))

    def test_things_that_have_gone_keep_their_numbers(self):
        desk = Desk(3, clashes=[(0, 1), (1, 2)], maybes=[(0, 2)])
        desk.need(1, 4), desk.start(1, 7), desk.mark(1), desk.go(1)
        self.same(told_of(desk)[:8], (3, (), ((0, 2),), Web(3), (0, 2), (1, 0, 1), (1, 1, 1), ()))
        self.same((desk.come((0,)), desk.order_now, desk.held.many), (("rooms 2", "stretch 0 2"), (3, 0, 2), 4))
        desk.go(3), desk.go(0), desk.go(2)
        self.same((desk.order_now, desk.room_count_now(), desk.is_safe_now(), desk.core_now()), ((), 0, True, ()))
        self.same((desk.come(()), desk.order_now, desk.held.many), (("rooms 1", "stretch 0 0"), (4,), 5))

    def test_a_deed_without_effect_stands(self):
        desk = Desk(2)
        self.same((desk.mark(1), desk.mark(1), desk.need(0, 1), desk.start(0, 1), desk.move(1, 1), desk.standing),
                  (("strangers 1",), (), (), (), (), 5))
        self.same((desk.undo(4), desk.strangers_now, desk.undo(), desk.strangers_now), ((), (1,), ("strangers 0",), ()))

    def test_new_desks(self):
        for desk, many in ((Desk(), 0), (Desk(1), 1), (Desk(4), 4)):
            self.same((desk.order_now, desk.needs_now, desk.starts_now, desk.strangers_now, desk.standing, desk.shown,
                       desk.deeds(), desk.web_now),
                      (tuple(range(many)), (1,) * many, (1,) * many, (), 0, 1, (), Web(many)))
            self.same((desk.held.many, desk.held.sure, desk.held.maybe), (many, (), ()))
        desk = Desk(3, clashes=[[2, 0]], maybes=[(2, 1), [1, 2]], shown=5)
        self.same((desk.held.sure, desk.held.maybe, desk.shown, desk.web_now), (((0, 2),), ((1, 2),), 5, Web(3, [(0, 2)])))

    def test_great_numbers(self):
        desk = Desk(3, clashes=[(0, 1), (1, 2)])
        self.same(desk.need(0, MOST), (f"rooms {MOST + 1}",))
        self.same(desk.start(1, MOST), ())
        self.same((desk.need(1, MOST), desk.room_count_now()), ((f"rooms {2 * MOST}",), 2 * MOST))
        self.same((desk.lot(MOST), desk.lot(MOST + 1), desk.lot(2 * MOST + 1)), ((0,), (1,), ()))
        self.same((desk.lot(1), desk.come((), need=10 ** 9), desk.lot(2)), ((0, 2), ("stretch 0 3",), (0, 3)))

    def test_a_hundred_deeds_on_sixteen_things(self):
        chance = Random(1)
        plain = some_plain(chance, 16, 0.3, 0.2)
        desk = desk_of(plain)
        for number in range(98):
            if number % 3:
                desk.need(number % 16, number ** 6)
            else:
                desk.move(chance.randrange(16), chance.randrange(16))
        desk.go(3)
        desk.come((0, 1), 4)
        self.same((desk.standing, desk.order_now.index(16), len(desk.order_now)), (100, 4, 16))
        desk.undo(100)
        self.same(everything(desk), everything(desk_of(plain)))

    def test_keeps_no_list(self):
        near, maybe, clashes, maybes = [1], [0], [[0, 1]], [[1, 2]]
        desk = Desk(3, clashes=clashes, maybes=maybes)
        desk.come(near, 0, maybe=maybe)
        told = everything(desk)
        for rows in (near, maybe, clashes[0], maybes[0], clashes, maybes):
            rows.clear()
        self.same(everything(desk), told)
        deed = ["come", [[0], 0, [1], 1]]
        desk.do(*deed)
        told = everything(desk)
        deed[1][0].append(2)
        self.same(everything(desk), told)


class Coming(Agree):
    def test_without_a_place(self):
        """At the first place that leaves the desk right; else the two rows of the stretch among those that stand."""
        counts = [0, 0, 0]
        for number in range(120):
            chance = Random(number)
            plain = some_plain(chance, 4 + number % 3, 0.45, 0.15)
            desk = desk_of(plain)
            if number % 4 == 0:
                plain.go(1), desk.go(1)
            near = [thing for thing in plain.row if chance.random() < 0.4]
            maybe = [thing for thing in plain.row if thing not in near and chance.random() < 0.3]
            if plain.bad_row() is not None:
                counts[0] += 1
                self.raises(NotRight(plain.bad_row()), desk.come, near, maybe=maybe)
                self.raises(NotRight(plain.bad_row()), desk.places_now, near, maybe)
                continue
            places = plain.right_places(near)
            if places:
                counts[1] += 1
                self.same(desk.places_now(near, maybe), (places[0], places[-1]))
                self.same(places, tuple(range(places[0], places[-1] + 1)))
                self.assertIn(f"stretch {places[0]} {places[-1]}", desk.come(near, maybe=maybe))
                self.same((desk.is_right_now(), desk.order_now.index(plain.many)), (True, places[0]))
                continue
            counts[2] += 1
            self.same(desk.places_now(near, maybe), None)
            web = plain.low().with_thing(near)
            others = tuple(plain.row) + tuple(x for x in range(plain.many) if x not in plain.row)
            rows = Stretch(web, others, plain.many).two_rows()
            self.assertTrue(all(set(row) <= {*plain.row, plain.many} for row in rows))
            self.raises(NoPlace(*rows), desk.come, near, maybe=maybe)
            self.same(desk.standing, 1 if number % 4 == 0 else 0)
        self.assertGreater(min(counts), 3)

    def test_no_place(self):
        desk = Desk(4, clashes=[(0, 1), (1, 2), (2, 3)])
        desk.move(0, 3)
        self.same((desk.order_now, desk.is_right_now()), ((1, 2, 3, 0), True))
        web = Web.ring(5)
        ring = Desk(4, clashes=[(0, 1), (1, 2), (2, 3)])
        self.same(ring.places_now((0, 3)), None)
        rows = Stretch(web, (0, 1, 2, 3), 4).two_rows()
        self.raises(NoPlace(*rows), ring.come, (0, 3))
        self.raises(NoPlace(*rows), ring.do, "come", [[3, 0]])
        self.same((ring.standing, ring.order_now), (0, (0, 1, 2, 3)))

    def test_a_ring_of_five(self):
        ring = Desk(4, clashes=[(0, 1), (1, 2), (2, 3)])
        plain = Plain(4, [(0, 1), (1, 2), (2, 3)])
        before = plain.copy()
        plain.come((0, 3), 2)
        self.same(ring.come((0, 3), 2), news_by_hand(before, plain))
        self.same(ring.news_of(0)[-1], "core 5")
        self.same(ring.undo()[-1], "core 0")


class Refused(Agree):
    def refused(self, desk, error, call, *rest, **more):
        told = everything(desk)
        self.raises(error, call, *rest, **more)
        self.same(everything(desk), told)

    def desk(self):
        desk = Desk(5, clashes=[(0, 1), (1, 2), (3, 4)], maybes=[(0, 2), (2, 3)], shown=2)
        desk.go(4)
        desk.mark(0)
        return desk

    def test_things(self):
        desk = self.desk()
        calls = [desk.go, desk.mark, desk.unmark]
        for value in (-1, 4, 5, *NO_INTEGERS):
            for call in calls:
                self.refused(desk, BadThing(value), call, value)
            self.refused(desk, BadThing(value), desk.move, value, -1)
            self.refused(desk, BadThing(value), desk.need, value, -1)
            self.refused(desk, BadThing(value), desk.start, value, 0)
            self.refused(desk, BadThing(value), desk.settle, value, 9, True)
            self.refused(desk, BadThing(value), desk.settle, 0, value, True)
            self.refused(desk, BadThing(value), desk.do, "go", [value])
        self.refused(desk, BadThing(2), desk.settle, 2, 2, True)

    def test_numbers(self):
        desk = self.desk()
        for value in (-1, *NO_INTEGERS):
            self.refused(desk, BadNeeds(2), desk.need, 2, value)
            self.refused(desk, BadNumber("number"), desk.start, 2, value)
            self.refused(desk, BadNumber("place"), desk.move, 2, value)
            self.refused(desk, BadNumber("many"), desk.undo, value)
            if value is not None:
                self.refused(desk, BadNumber("place"), desk.come, (), value)
            self.refused(desk, BadNumber("need"), desk.come, (), 0, need=value)
        self.refused(desk, BadNumber("number"), desk.start, 2, 0)
        self.refused(desk, BadNumber("place"), desk.move, 2, 4)
        self.refused(desk, BadNumber("place"), desk.come, (), 5)
        self.refused(desk, BadNumber("many"), desk.undo, 0)
        self.refused(desk, BadNumber("many"), desk.undo, 3)

    def test_undo_of_none_and_of_too_many(self):
        desk = Desk(2)
        for many in (1, 0, 2):
            self.refused(desk, BadNumber("many"), desk.undo, many)
        self.refused(desk, BadNumber("many"), desk.do, "undo", ())
        desk.mark(0)
        self.refused(desk, BadNumber("many"), desk.undo, 2)
        desk.undo(1)
        self.refused(desk, BadNumber("many"), desk.undo)

    def test_pairs_and_strangers(self):
        desk = self.desk()
        for x, y in ((0, 1), (0, 3), (1, 3), (2, 1)):
            self.refused(desk, NoneSuch("maybe"), desk.settle, x, y, False)
        self.refused(desk, NoneSuch("stranger"), desk.unmark, 1)
        desk.settle(3, 2, False)
        self.refused(desk, NoneSuch("maybe"), desk.settle, 2, 3, True)

    def test_what_comes(self):
        desk = self.desk()
        for near, place in (([0, 4], 1), ((5,), 0), ((1, 0, 1), 2), ([0, True], 1), ((None,), 0), ((1.0,), 0)):
            self.refused(desk, BadPart(place), desk.come, near, 99, maybe=(9,), need=-1)
            self.refused(desk, BadPart(place), desk.come, (), 0, maybe=near, need=-1)
            self.refused(desk, BadNumber("place"), desk.come, (), 99, maybe=near)
            for call in (desk.places_now, desk.places_safe):
                self.refused(desk, BadPart(place), call, near, (9,))
                self.refused(desk, BadPart(place), call, (), near)
        self.refused(desk, BadWeb(5, 1), desk.come, (3, 2, 1), 0, maybe=(1, 3), need=-1)
        self.refused(desk, BadWeb(5, 1), desk.places_now, (3, 2, 1), (1, 3))
        self.refused(desk, BadWeb(5, 1), desk.places_safe, (3, 2, 1), [3, 1])
        wrong = Desk(4, clashes=[(0, 1), (1, 2), (2, 3)])
        wrong.move(3, 0)
        self.same(wrong.is_right_now(), False)
        self.refused(wrong, BadNumber("need"), wrong.come, (), need=-1)
        self.refused(wrong, BadWeb(4, 0), wrong.come, [0], maybe=[0])
        self.refused(wrong, NotRight((0, 1, 2, 3)), wrong.come, ())
        self.refused(wrong, NotRight((0, 1, 2, 3)), wrong.places_now, ())

    def test_names(self):
        desk = self.desk()
        for name in ("", "Come", "comes", "lot", "told", "show", "twin", "do", "__init__", None, 3, True, ["go"], ("go",), {},
                     {"go"}, desk, 1.0):
            self.refused(desk, BadDeed(name), desk.do, name, (0,))
        for name, numbers in (("come", (0, 5)), ("go", (0, 2)), ("move", (1, 3)), ("need", (0, 1, 3)), ("start", (1, 3)),
                              ("settle", (2, 4)), ("mark", (0, 2)), ("unmark", (0, 2)), ("undo", (2, 3))):
            for number in numbers:
                self.refused(desk, BadDeed(name), desk.do, name, [9] * number)
                self.refused(desk, BadDeed(name), desk.do, name, (9,) * number)

    def test_new_desks(self):
        for value in (-1, *NO_INTEGERS):
            self.raises(BadNumber("many"), Desk, value, clashes=[9], maybes=[9], shown=0)
            self.raises(BadNumber("shown"), Desk, 2, shown=value)
        self.raises(BadNumber("shown"), Desk, 2, shown=0)
        self.raises(BadWeb(0, 2), Desk, 2, clashes=[(0, 2)], maybes=[9], shown=0)
        self.raises(BadWeb(None, None), Desk, 2, clashes=[(0, 1)], maybes=[9], shown=0)
        self.raises(BadWeb(1, 0), Desk, 2, clashes=[(0, 1)], maybes=[(1, 0)], shown=0)


class Safe(Agree):
    def test_what_keeps_a_desk_safe(self):
        """[143]: also the room count while the maybes are settled."""
        tested = 0
        for number in range(80):
            chance = Random(number)
            plain = some_plain(chance, 5, 0.3, 0.3)
            desk = desk_of(plain)
            for thing in range(5):
                desk.need(thing, chance.randrange(4))
                if number % 2:
                    desk.start(thing, chance.randrange(1, 3))
            if not desk.is_safe_now():
                continue
            tested += 1
            self.same((desk.is_right_now(), desk.room_count_now() == desk.ends_now()[0]), (True, True))
            least, most = desk.ends_now()
            for pair in chance.sample(sorted(plain.maybe), len(plain.maybe)):
                desk.settle(*pair, chance.random() < 0.5)
                self.assertTrue(desk.is_safe_now() and least <= desk.room_count_now() <= most)
            desk.need(2, 9), desk.mark(1), desk.unmark(1), desk.go(chance.randrange(5))
            self.same((desk.is_safe_now(), desk.ends_now()[0]), (True, desk.room_count_now()))
        self.assertGreater(tested, 15)

    def test_price_of_strangers(self):
        """[144]: the things that are no strangers have no bad row and no bad three."""
        tested = 0
        for number in range(120):
            desk, plain = played(number, 7)
            others = [x for x in range(plain.many) if x not in plain.strangers]
            if any(plain.starts[x] > 1 for x in plain.strangers) or not plain.strangers:
                continue
            kept = plain.copy()
            for thing in plain.strangers:
                kept.go(thing)
            kept.maybe = set()
            if kept.against() is not None:
                continue
            tested += 1
            total, more = desk.price_now()
            off = [need if x in others else 0 for x, need in enumerate(plain.needs)]
            self.same(total, floor_by_hand(plain.high(), plain.starts, off))
            self.assertLessEqual(desk.room_count_now(), total + more)
        self.assertGreater(tested, 10)

    def test_moves_of_a_right_desk(self):
        """[110]: a thing may be moved to just the places of its stretch among the others."""
        for number in range(30):
            chance = Random(number)
            plain = some_plain(chance, 6, 0.45, 0)
            desk = desk_of(plain)
            if not desk.is_right_now():
                continue
            for thing in range(6):
                others = tuple(x for x in plain.row if x != thing)
                stretch = Stretch(plain.low(), others, thing)
                for place in range(6):
                    desk.move(thing, place)
                    self.same(desk.is_right_now(), stretch.has(place))
                    desk.undo()

    def test_a_safe_desk_takes_the_floor(self):
        for number in range(60):
            desk, plain = played(number)
            if desk.is_safe_now():
                self.same(plain.rooms(), floor_by_hand(plain.low(), plain.starts, plain.needs))
                if set(plain.starts) <= {1}:
                    self.same(plain.rooms(), heaviest_weight(plain.low(), plain.needs))


class Twins(Agree):
    def test_later_calls_have_no_effect_on_the_other(self):
        for number in range(15):
            desk, plain = played(number)
            desk.show(3)
            twin = desk.twin()
            self.assertIsInstance(twin, Desk)
            self.same((everything(twin), twin.same_as(desk), desk.same_as(twin)), (everything(desk), True, True))
            told = everything(desk)
            twin.undo(2), twin.come((), 0), twin.show(9)
            self.same(everything(desk), told)
            told = everything(twin)
            desk.undo(desk.standing)
            self.same(everything(twin), told)

    def test_the_same(self):
        for number in range(25):
            desk, plain = played(number)
            other = made_anew(desk)
            other.show(4)
            self.same((desk.same_as(other), other.same_as(desk)), (True, True))
            self.same(told_of(other), told_of(desk))
            name, arguments = some_deed(Random(number), plain)
            do_on(other, name, arguments)
            changed = plain.copy()
            changed.do(name, arguments)
            alike = vars(changed) == vars(plain)
            self.same((desk.same_as(other), other.same_as(desk)), (alike, alike))

    def test_what_differs(self):
        def desk(**more):
            return Desk(3, clashes=[(0, 1)], maybes=[(1, 2)], **more)
        for name, arguments in (("need", (0, 2)), ("start", (0, 2)), ("mark", (0,)), ("move", (0, 1)), ("go", (2,)),
                                ("settle", (1, 2, False)), ("settle", (1, 2, True)), ("come", ((), 3))):
            other = desk()
            other.do(name, arguments)
            self.same((desk().same_as(other), other.same_as(desk()), other.same_as(other)), (False, False, True))
        self.same(desk(shown=7).same_as(desk()), True)
        for value in (None, 3, "desk", Web(3), desk().held, ()):
            self.same(desk().same_as(value), False)
        self.same((Desk().same_as(Desk()), Desk().same_as(Desk(1))), (True, False))


class All(Case):
    def test_every_deed_that_raises_is_an_error_of_the_package(self):
        desk = Desk(2)
        for name, arguments in (("go", (5,)), ("come", ((7,),)), ("settle", (0, 1, True)), ("undo", ()), ("nothing", ())):
            with self.assertRaises(OrdersError):
                desk.do(name, arguments)
        self.same(everything(desk), everything(Desk(2)))


if __name__ == "__main__":
    unittest.main()
