"""perfectorders/trials.py: [147] trials, [146] calls by name."""

import unittest
from random import Random

from perfectorders.desks import Desk
from perfectorders.errors import BadDeed, BadThing
from perfectorders.listings import line_of
from perfectorders.trials import Trial, tried
from tests.by_hand import Case
from tests.desk_by_hand import do_on, everything, some_deed
from tests.test_desks import played


def play(desk, plain, chance, many=4):
    """Do some deeds on both."""
    for _ in range(many):
        name, arguments = some_deed(chance, plain)
        plain.do(name, arguments)
        do_on(desk, name, arguments)


class Blocks(Case):
    def test_all_deeds_are_taken_back(self):
        for number in range(25):
            chance = Random(number)
            desk, plain = played(number, number % 6)
            told = everything(desk)
            with Trial(desk) as trial:
                self.assertIsInstance(trial, Trial)
                self.assertIs(trial.desk, desk)
                self.same(trial.ended, False)
                play(desk, plain, chance)
                if number % 2:
                    desk.undo(desk.standing)
                    desk.come((), 0)
                desk.show(9)
                self.assertNotEqual(everything(desk), told)
            self.same((everything(desk), trial.ended), (told, True))

    def test_undo_of_what_stood_before(self):
        desk = Desk(2)
        desk.need(0, 5), desk.need(1, 9), desk.show(4)
        told = everything(desk)
        with Trial(desk):
            desk.undo(2)
            self.same(desk.standing, 0)
            desk.mark(1), desk.mark(0), desk.mark(1)
        self.same(everything(desk), told)
        self.same((desk.undo(), desk.undo()), (("rooms 5",), ("rooms 1",)))

    def test_left_by_an_error_and_by_a_return(self):
        desk = Desk(2)
        told = everything(desk)
        trial = Trial(desk)
        with self.assertRaises(BadThing) as caught:
            with trial:
                desk.mark(0)
                desk.go(7)
        self.same((caught.exception.thing, everything(desk), trial.ended), (7, told, True))
        with self.assertRaises(KeyError):
            with Trial(desk):
                desk.mark(0)
                raise KeyError("no error of the package")
        self.same(everything(desk), told)

        def returned():
            with Trial(desk):
                desk.mark(0)
                return desk.strangers_now

        self.same((returned(), everything(desk)), ((0,), told))
        for number in range(3):
            with Trial(desk):
                desk.mark(1)
                if number:
                    continue
            self.same(everything(desk), told)

    def test_trials_within_trials(self):
        for number in range(10):
            chance = Random(number)
            desk, plain = played(number, 3)
            first = everything(desk)
            with Trial(desk) as outer:
                play(desk, plain, chance, 2)
                second = everything(desk)
                kept = plain.copy()
                with Trial(desk) as inner:
                    play(desk, plain, chance, 3)
                    with Trial(desk):
                        play(desk, plain, chance, 2)
                        desk.undo(3)
                    desk.show(7)
                    self.same((outer.ended, inner.ended), (False, False))
                self.same((everything(desk), outer.ended, inner.ended), (second, False, True))
                play(desk, kept, chance, 2)
            self.same((everything(desk), outer.ended), (first, True))

    def test_a_second_block_of_the_same_trial(self):
        desk = Desk(2)
        trial = Trial(desk)
        self.same(trial.ended, False)
        with trial:
            desk.mark(0)
        self.same((trial.ended, desk.strangers_now), (True, ()))
        desk.mark(1)
        told = everything(desk)
        with trial as again:
            self.assertIs(again, trial)
            self.same(trial.ended, False)
            desk.mark(0)
        self.same((trial.ended, everything(desk)), (True, told))

    def test_a_block_of_a_trial_within_one_of_the_same_trial(self):
        desk = Desk(3)
        first = everything(desk)
        trial = Trial(desk)
        with trial:
            desk.mark(0)
            second = everything(desk)
            with trial:
                desk.mark(1)
                with trial:
                    desk.mark(2)
                self.same((desk.strangers_now, trial.ended), ((0, 1), False))
            self.same((everything(desk), trial.ended), (second, False))
        self.same((everything(desk), trial.ended), (first, True))

    def test_two_desks_at_once(self):
        one, two = Desk(1), Desk(2)
        with Trial(one) as first, Trial(two) as second:
            one.mark(0), two.mark(1)
            self.same((first.ended, second.ended), (False, False))
        self.same((one.strangers_now, two.strangers_now), ((), ()))

    def test_a_twin_keeps_what_was_done_inside(self):
        desk = Desk(2)
        with Trial(desk):
            desk.mark(0)
            twin = desk.twin()
        self.same((twin.strangers_now, twin.standing, desk.strangers_now), ((0,), 1, ()))
        with Trial(desk):
            twin.mark(1)
        self.same(twin.strangers_now, (0, 1))

    def test_an_empty_block(self):
        desk = Desk()
        with Trial(desk) as trial:
            pass
        self.same((everything(desk), trial.ended), (everything(Desk()), True))


class Tried(Case):
    def test_news_of_each_deed(self):
        for number in range(25):
            chance = Random(number)
            desk, plain = played(number, 3)
            told = everything(desk)
            twin = desk.twin()
            deeds, news = [], []
            for _ in range(number % 5):
                name, arguments = some_deed(chance, plain)
                plain.do(name, arguments)
                deeds.append((name, list(arguments)))
                news.append(twin.do(name, arguments))
            self.same(tried(desk, deeds), tuple(news))
            self.same(tried(desk, tuple(deeds) + (("undo", (3,)),)), (*news, twin.undo(3)))
            self.same(everything(desk), told)

    def test_until_one_is_refused(self):
        desk = Desk(4, clashes=[(0, 1), (1, 2), (2, 3)])
        told = everything(desk)
        for deed, name in ((("go", (9,)), "BadThing"), (("undo", (3,)), "BadNumber"), (("need", (0, -1)), "BadNeeds"),
                           (("come", ((9,),)), "BadPart"), (("come", ((0, 3),)), "NoPlace"), (("unmark", (1,)), "NoneSuch"),
                           (("come", ((0,), 0, (0,))), "BadWeb")):
            got = tried(desk, [("mark", (0,)), deed, ("mark", (2,)), ("go", (9,))])
            self.same(got, (("strangers 1",), ("refused", name)))
            self.same(everything(desk), told)
        self.same(tried(desk, [("move", (3, 0)), ("come", ((),))])[-1], ("refused", "NotRight"))

    def test_example(self):
        desk = Desk(4, clashes=[(0, 1), (1, 2)], maybes=[(2, 3)])
        news = desk.need(3, 4)
        told = tried(desk, [("settle", (2, 3, True)), ("go", (1,)), ("go", (1,))])
        got = (news, told, desk.ends_now(), desk.what_if([("settle", (2, 3, True))], "room_count_now"), line_of(desk, 3))
        self.same(got, (("rooms 4",), (("rooms 5",), (), ("refused", "BadThing")), (4, 5), 5,
                        "thing 3: place 3, need 4, start 1, maybe 2, rooms 1-4"))

    def test_names_are_checked_before_any_deed(self):
        desk = Desk(2)
        told = everything(desk)
        for name in ("", "gone", "lot", "told", None, 3, ["go"], {}, desk):
            self.raises(BadDeed(name), tried, desk, [("mark", (0,)), ("go", (9,)), (name, (0,)), ("mark", ())])
        for name, arguments in (("mark", ()), ("mark", (0, 1)), ("come", ()), ("undo", (1, 2)), ("settle", [0, 1])):
            self.raises(BadDeed(name), tried, desk, [["mark", [0]], [name, arguments], ["gone", []]])
        self.same(everything(desk), told)

    def test_no_deeds_and_undo(self):
        desk = Desk(1)
        self.same((tried(desk, []), tried(desk, ()), tried(desk, [("undo", ())])), ((), (), (("refused", "BadNumber"),)))
        desk.need(0, 3)
        self.same((tried(desk, [("undo", ()), ("undo", [1])]), desk.standing), ((("rooms 1",), ("refused", "BadNumber")), 1))


if __name__ == "__main__":
    unittest.main()
