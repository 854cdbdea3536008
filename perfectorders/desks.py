"""Desks: things that come, go and change, deed by deed, and what is asked of them."""

from perfectorders.amounts import check_number, first_unfit, is_int, needs_off, weight
from perfectorders.books import taken_first
from perfectorders.deeds import check_deed, check_deeds, check_question, come_arguments
from perfectorders.deskstates import (are_same, barring_rows, new_state, news_between, safe_places, stretch_ends,
                                      with_need, with_new, with_place, with_settled, with_start, with_strangers,
                                      without_thing)
from perfectorders.errors import BadDeed, BadNeeds, BadNumber, BadPart, BadThing, BadWeb, NoneSuch, NoPlace, NotRight
from perfectorders.raises import slack
from perfectorders.starts import floor


def check_standing(state, thing):
    """Return the thing, which must stand."""
    if not is_int(thing) or thing not in state.row:
        raise BadThing(thing)
    return thing


def standing_things(state, things):
    """Return the things, all of which must stand, as an ascending tuple."""
    place = first_unfit(state.row, things)
    if place is not None:
        raise BadPart(place)
    return tuple(sorted(things))


def check_apart(state, near, maybe):
    """Check that nothing with which a new thing clashes is a maybe with it, too."""
    for thing in near:
        if thing in maybe:
            raise BadWeb(state.maybe_web.many, thing)


def check_most(value, name, least, most):
    """Return the value, an integer from `least` to `most`."""
    check_number(value, name, least)
    if value > most:
        raise BadNumber(name)
    return value


def check_desk_right(state):
    """Check that the desk is right."""
    if state.bad_row is not None:
        raise NotRight(state.bad_row)


class Done:
    """A deed that stands: its name, its arguments, its news, and what stood on the desk before it."""

    def __init__(self, name, arguments, news, before):
        self.name = name
        self.arguments = arguments
        self.news = news
        self.before = before


class Moment:
    """A desk as it is between two calls: what stands on it, the deeds that stand, and the room that is shown.

    It never changes, so that a trial can put back the one at its beginning.
    """

    def __init__(self, state, past, room):
        self.state = state
        self.past = past
        self.room = room


class Desk:
    """A desk with things, on which deeds are done, taken back and asked about."""

    def __init__(self, many=0, *, clashes=(), maybes=(), shown=1):
        state = new_state(many, clashes, maybes)
        self.now = Moment(state, (), check_number(shown, "shown", 1))

    @property
    def held(self):
        """The MaybeWeb on all things."""
        return self.now.state.maybe_web

    @property
    def web_now(self):
        """The lowest world."""
        return self.now.state.low_web

    @property
    def order_now(self):
        """The things that stand, in their order."""
        return self.now.state.row

    @property
    def needs_now(self):
        """The needs of all things."""
        return self.now.state.needs

    @property
    def starts_now(self):
        """The starts of all things."""
        return self.now.state.starts

    @property
    def strangers_now(self):
        """The strangers, ascending."""
        return self.now.state.strangers

    @property
    def standing(self):
        """The number of deeds that stand."""
        return len(self.now.past)

    @property
    def shown(self):
        """The room that is shown."""
        return self.now.room

    @shown.setter
    def shown(self, value):
        self.show(value)

    def show(self, room):
        """Set the room that is shown, and return it."""
        check_number(room, "shown", 1)
        self.now = Moment(self.now.state, self.now.past, room)
        return room

    def twin(self):
        """Return a new Desk that is the same, with the same deeds standing and the same room shown."""
        desk = Desk()
        desk.now = self.now
        return desk

    def keep(self, name, arguments, state, more=()):
        """Let the deed stand, which makes the desk so, and return its news."""
        before = self.now.state
        news = news_between(before, state, more)
        past = (*self.now.past, Done(name, arguments, news, before))
        self.now = Moment(state, past, self.now.room)
        return news

    def come(self, near, place=None, *, maybe=(), need=1):
        """Let a new thing come; it clashes with the things in `near`, and is a maybe with those in `maybe`."""
        state = self.now.state
        clashing = standing_things(state, near)
        if place is not None:
            check_most(place, "place", 0, len(state.row))
        maybes = standing_things(state, maybe)
        check_apart(state, clashing, maybes)
        check_number(need, "need")
        arguments = (clashing, place, maybes, need)
        if place is not None:
            return self.keep("come", arguments, with_new(state, clashing, maybes, need, place))
        check_desk_right(state)
        ends = stretch_ends(state, clashing)
        if ends is None:
            floor_row, roof_row = barring_rows(state, clashing)
            raise NoPlace(floor_row, roof_row)
        first, last = ends
        more = (f"stretch {first} {last}",)
        return self.keep("come", arguments, with_new(state, clashing, maybes, need, first), more)

    def go(self, thing):
        """Let the thing go."""
        state = self.now.state
        check_standing(state, thing)
        return self.keep("go", (thing,), without_thing(state, thing))

    def move(self, thing, place):
        """Move the thing to the place among the others."""
        state = self.now.state
        check_standing(state, thing)
        check_most(place, "place", 0, len(state.row) - 1)
        return self.keep("move", (thing, place), with_place(state, thing, place))

    def need(self, thing, number):
        """Let the need of the thing become the number."""
        state = self.now.state
        check_standing(state, thing)
        if not is_int(number) or number < 0:
            raise BadNeeds(thing)
        return self.keep("need", (thing, number), with_need(state, thing, number))

    def start(self, thing, number):
        """Let the start of the thing become the number."""
        state = self.now.state
        check_standing(state, thing)
        check_number(number, "number", 1)
        return self.keep("start", (thing, number), with_start(state, thing, number))

    def settle(self, x, y, clashing):
        """Let the maybe x, y become a clash or a gap."""
        state = self.now.state
        check_standing(state, x)
        check_standing(state, y)
        if x == y:
            raise BadThing(y)
        return self.keep("settle", (x, y, clashing), with_settled(state, x, y, clashing))

    def mark(self, thing):
        """Let the thing become a stranger."""
        state = self.now.state
        check_standing(state, thing)
        others = [other for other in state.strangers if other != thing]
        return self.keep("mark", (thing,), with_strangers(state, [*others, thing]))

    def unmark(self, thing):
        """Let the thing be a stranger no longer."""
        state = self.now.state
        check_standing(state, thing)
        if thing not in state.strangers:
            raise NoneSuch("stranger")
        return self.keep("unmark", (thing,), with_strangers(state, [x for x in state.strangers if x != thing]))

    def undo(self, many=1):
        """Take back the last deeds, so many, and return the news of the whole change."""
        left = self.standing - check_most(many, "many", 1, self.standing)
        state = self.now.past[left].before
        news = news_between(self.now.state, state)
        self.now = Moment(state, self.now.past[:left], self.now.room)
        return news

    def do(self, name, arguments):
        """Do the deed of that name, or undo, and return its news."""
        check_deed(name, arguments)
        if name == "come":
            near, place, maybe, need = come_arguments(arguments)
            return self.come(near, place, maybe=maybe, need=need)
        calls = {"go": self.go, "move": self.move, "need": self.need, "start": self.start, "settle": self.settle,
                 "mark": self.mark, "unmark": self.unmark, "undo": self.undo}
        call = calls[name]
        return call(*arguments)

    def room_count_now(self):
        """Return the room count of the book."""
        return self.book().room_count

    def book(self):
        """Return the book."""
        return self.now.state.held_book

    def lot(self, room=None):
        """Return the room lot of the room, or of the one that is shown."""
        if room is None:
            return self.book().lot_at(self.shown)
        return self.book().lot_at(room)

    def is_right_now(self):
        """Tell whether the desk is right."""
        return self.now.state.bad_row is None

    def is_safe_now(self):
        """Tell whether the desk is safe."""
        return self.now.state.against is None

    def ends_now(self):
        """Return the pair of the floors of the lowest and the highest world; the desk must be safe."""
        state = self.now.state
        if state.against is not None:
            raise NotRight(state.against)
        highest = state.maybe_web.highest()
        return (floor(state.low_web, state.starts, state.needs), floor(highest, state.starts, state.needs))

    def price_now(self):
        """Return the pair of the floor of the highest world without the strangers, and the needs of the strangers."""
        state = self.now.state
        needs = needs_off(state.needs, state.strangers)
        return (floor(state.maybe_web.highest(), state.starts, needs), weight(state.needs, state.strangers))

    def core_now(self):
        """Return the core of the lowest world, ascending."""
        return self.now.state.core_left

    def places_now(self, near, maybe=()):
        """Return the first and the last place at which a new thing leaves the desk right, None if there is none."""
        state = self.now.state
        clashing = standing_things(state, near)
        check_apart(state, clashing, standing_things(state, maybe))
        check_desk_right(state)
        return stretch_ends(state, clashing)

    def places_safe(self, near, maybe=()):
        """Return the places at which a new thing leaves the desk safe, ascending."""
        state = self.now.state
        clashing = standing_things(state, near)
        maybes = standing_things(state, maybe)
        check_apart(state, clashing, maybes)
        return safe_places(state, clashing, maybes)

    def told(self, **more):
        """Return the answers for the names that are passed: lot, slack_of and first, in this order."""
        for name in more:
            if name not in ("lot", "slack_of", "first"):
                raise BadDeed(name)
        state = self.now.state
        answers = []
        if "lot" in more:
            answers.append(self.lot(more["lot"]))
        if "slack_of" in more:
            answers.append(slack(state.low_web, state.needs, check_standing(state, more["slack_of"])))
        if "first" in more:
            answers.append(taken_first(state.order, standing_things(state, more["first"])))
        return tuple(answers)

    def deeds(self):
        """Return the deeds that stand as tuples (name, arguments), the first one first."""
        return tuple([(done.name, done.arguments) for done in self.now.past])

    def news_of(self, number):
        """Return the news of the deed with that number."""
        return self.now.past[check_most(number, "number", 0, self.standing - 1)].news

    def same_as(self, other):
        """Tell whether both are Desks and are the same."""
        return isinstance(other, Desk) and are_same(self.now.state, other.now.state)

    def ask(self, question, *rest):
        """Return the answer to the question of that name."""
        check_question(question, rest)
        known = {"order_now": self.order_now, "needs_now": self.needs_now, "starts_now": self.starts_now,
                 "strangers_now": self.strangers_now, "standing": self.standing}
        if question in known:
            return known[question]
        calls = {"deeds": self.deeds, "room_count_now": self.room_count_now, "is_right_now": self.is_right_now,
                 "is_safe_now": self.is_safe_now, "ends_now": self.ends_now, "price_now": self.price_now,
                 "core_now": self.core_now, "lot": self.lot, "places_now": self.places_now,
                 "places_safe": self.places_safe}
        call = calls[question]
        return call(*rest)

    def what_if(self, deeds, question, *rest):
        """Return what the answer would be after the deeds; the desk itself stays as it is."""
        check_deeds(deeds)
        check_question(question, rest)
        desk = self.twin()
        for name, arguments in deeds:
            desk.do(name, arguments)
        return desk.ask(question, *rest)
