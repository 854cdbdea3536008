"""A desk worked out straight from the document's words, and random deeds for it and for a Desk."""

from itertools import permutations

from perfectorders.desks import Desk
from perfectorders.orders import Order
from perfectorders.webs import Web
from tests.by_hand import (bad_by_hand, clash, floor_by_hand, held_from, pairs_of, rows_by_hand, sides)


class Plain:
    """What stands on a desk, as plain lists and sets; each deed is done by its words."""

    def __init__(self, many=0, clashes=(), maybes=()):
        self.many = many
        self.row = list(range(many))
        self.sure = {sides(*pair) for pair in clashes}
        self.maybe = {sides(*pair) for pair in maybes}
        self.needs = [1] * many
        self.starts = [1] * many
        self.strangers = set()

    def copy(self):
        other = Plain()
        other.many, other.row = self.many, list(self.row)
        other.sure, other.maybe, other.strangers = set(self.sure), set(self.maybe), set(self.strangers)
        other.needs, other.starts = list(self.needs), list(self.starts)
        return other

    def whole(self):
        return tuple(self.row) + tuple(x for x in range(self.many) if x not in self.row)

    def low(self):
        return Web(self.many, self.sure)

    def high(self):
        return Web(self.many, self.sure | self.maybe)

    def do(self, name, arguments):
        getattr(self, name)(*arguments)

    def come(self, near, place, maybe=(), need=1):
        if place is None:
            place = self.right_places(near)[0]
        self.sure |= {(x, self.many) for x in near}
        self.maybe |= {(x, self.many) for x in maybe}
        self.row.insert(place, self.many)
        self.needs.append(need)
        self.starts.append(1)
        self.many += 1

    def go(self, thing):
        self.row.remove(thing)
        self.sure = {pair for pair in self.sure if thing not in pair}
        self.maybe = {pair for pair in self.maybe if thing not in pair}
        self.needs[thing], self.starts[thing] = 0, 1
        self.strangers.discard(thing)

    def move(self, thing, place):
        self.row.remove(thing)
        self.row.insert(place, thing)

    def need(self, thing, number):
        self.needs[thing] = number

    def start(self, thing, number):
        self.starts[thing] = number

    def settle(self, x, y, clashing):
        self.maybe.remove(sides(x, y))
        if clashing:
            self.sure.add(sides(x, y))

    def mark(self, thing):
        self.strangers.add(thing)

    def unmark(self, thing):
        self.strangers.remove(thing)

    def held(self):
        return held_from(self.low(), self.whole(), self.starts, self.needs)

    def rooms(self):
        return max([max(rooms, default=0) for rooms in self.held().values()], default=0)

    def bad_row(self):
        bad = bad_by_hand(self.low(), self.whole())
        return bad[0] if bad else None

    def against(self):
        """The row against the desk, None if it is safe."""
        place = {thing: at for at, thing in enumerate(self.whole())}
        can = self.sure | self.maybe
        rows = [(a, b, c, d) for a, b, c, d in permutations(self.row, 4)
                if a < d and place[a] < place[b] and place[d] < place[c]
                and {sides(a, b), sides(b, c), sides(c, d)} <= can
                and not {sides(a, c), sides(b, d), sides(a, d)} & self.sure]
        threes = [(b, c, d) for b, c, d in permutations(self.row, 3)
                  if place[d] < place[c] and {sides(b, c), sides(c, d)} <= can and sides(b, d) not in self.sure
                  and self.starts[b] > max(self.starts[c], self.starts[d])]
        return min(rows) if rows else min(threes) if threes else None

    def core(self):
        left = set(range(self.many))
        while True:
            rows = [row for row in rows_by_hand(self.low()) if set(row) <= left]
            both = {x for row in rows for x in (row[0], row[3])} & {x for row in rows for x in row[1:3]}
            if both == left:
                return tuple(sorted(left))
            left = both

    def floor(self, web, needs):
        return floor_by_hand(web, self.starts, needs)

    def places(self, near, maybe, good):
        """The places at which a new thing leaves the desk good, by coming at every place."""
        found = []
        for place in range(len(self.row) + 1):
            other = self.copy()
            other.come(near, place, maybe)
            if good(other):
                found.append(place)
        return tuple(found)

    def right_places(self, near):
        return self.places(near, (), lambda other: other.bad_row() is None)

    def safe_places(self, near, maybe):
        return self.places(near, maybe, lambda other: other.against() is None)


def news_by_hand(before, after, stretch=None):
    """What the news of a change must be; before and after are Plain."""
    news = []
    if after.rooms() != before.rooms():
        news.append(f"rooms {after.rooms()}")
    if after.bad_row() != before.bad_row():
        row = after.bad_row()
        news.append("right" if row is None else "row {} {} {} {}".format(*row))
    if (after.against() is None) != (before.against() is None):
        news.append("safe" if after.against() is None else "unsafe")
    if stretch is not None:
        news.append("stretch {} {}".format(*stretch))
    if len(after.core()) != len(before.core()):
        news.append(f"core {len(after.core())}")
    if len(after.strangers) != len(before.strangers):
        news.append(f"strangers {len(after.strangers)}")
    return tuple(news)


def told_of(desk):
    """All that a Desk tells of what stands on it, as a tuple."""
    return (desk.held.many, desk.held.sure, desk.held.maybe, desk.web_now, desk.order_now, desk.needs_now,
            desk.starts_now, desk.strangers_now, desk.room_count_now(), desk.book().spans, desk.is_right_now(),
            desk.is_safe_now(), desk.price_now(), desk.core_now())


def everything(desk):
    """All that a Desk tells, its deeds, their news and the room shown, too."""
    news = tuple(desk.news_of(number) for number in range(desk.standing))
    return (told_of(desk), desk.standing, desk.deeds(), news, desk.shown, desk.lot())


def made_anew(desk):
    """A Desk that is the same, made from what stands."""
    other = Desk(desk.held.many, clashes=desk.held.sure, maybes=desk.held.maybe)
    for thing in range(desk.held.many):
        if thing not in desk.order_now:
            other.go(thing)
    for place, thing in enumerate(desk.order_now):
        other.move(thing, place)
        other.need(thing, desk.needs_now[thing])
        other.start(thing, desk.starts_now[thing])
        if thing in desk.strangers_now:
            other.mark(thing)
    return other


def some_plain(chance, many, clashing=0.35, maybe=0.25):
    """A Plain desk with clashes and maybes by chance."""
    sure, maybes = [], []
    for pair in pairs_of(range(many)):
        number = chance.random()
        if number < clashing:
            sure.append(pair)
        elif number < clashing + maybe:
            maybes.append(pair)
    return Plain(many, sure, maybes)


def some_come(chance, plain):
    near, maybe = [], []
    for thing in chance.sample(plain.row, len(plain.row)):
        number = chance.random()
        if number < 0.4:
            near.append(thing)
        elif number < 0.5:
            maybe.append(thing)
    place = chance.randrange(len(plain.row) + 1)
    if plain.bad_row() is None and plain.right_places(near) and chance.random() < 0.5:
        place = None
    return ("come", (near, place, maybe, chance.randrange(4)))


def some_deed(chance, plain, most=7):
    """A deed that may be done: (name, arguments)."""
    names = ["need", "start", "move", "mark"] if plain.row else []
    if len(plain.row) < most:
        names += ["come", "come"]
    if len(plain.row) > 2:
        names.append("go")
    if plain.maybe:
        names += ["settle", "settle"]
    if plain.strangers:
        names.append("unmark")
    name = chance.choice(names or ["come"])
    if name == "come":
        return some_come(chance, plain)
    if name == "settle":
        x, y = chance.choice(sorted(plain.maybe))
        return (name, (*chance.sample((x, y), 2), chance.random() < 0.5))
    thing = chance.choice(sorted(plain.strangers)) if name == "unmark" else chance.choice(plain.row)
    more = {"need": lambda: (chance.randrange(4),), "start": lambda: (chance.randrange(1, 4),),
            "move": lambda: (chance.randrange(len(plain.row)),)}
    return (name, (thing, *more.get(name, tuple)()))


def do_on(desk, name, arguments):
    """Call the deed's own method."""
    if name == "come":
        near, place, maybe, need = arguments
        return desk.come(near, place, maybe=maybe, need=need)
    return getattr(desk, name)(*arguments)


def whole_order(desk):
    """The Order of the things that stand, followed by those that have gone, on the lowest world."""
    row = desk.order_now + tuple(x for x in range(desk.held.many) if x not in desk.order_now)
    return Order(desk.web_now, row)


def clashing_things(web, thing):
    return tuple(other for other in range(web.many) if clash(web, thing, other))
