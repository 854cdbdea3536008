"""Books: which rooms the things of an order take."""

from perfectorders.amounts import check_needs, check_number, check_part, check_thing, check_things
from perfectorders.amounts import meets, needy_things
from perfectorders.errors import BadNumber
from perfectorders.masks import things_in
from perfectorders.runs import holds_room, least_rooms, spans_of


def booked_runs(order, needs, starts, ahead):
    """Return for each thing the runs of the rooms that it holds, a tuple.

    `starts` has the least room that each thing may take, `ahead` the runs that it holds already; a thing
    that holds some takes no other rooms.
    """
    held = list(ahead)
    for thing in order.row:
        if not ahead[thing]:
            taken = [run for other in order.web.near(thing) for run in held[other]]
            held[thing] = least_rooms(taken, needs[thing], starts[thing])
    return tuple(held)


class Book:
    """The book of an order: each thing in its order takes its least free rooms."""

    def __init__(self, order, needs=None):
        many = len(order)
        told = check_needs(many, needs)
        self.keep(order, told, booked_runs(order, told, (1,) * many, ((),) * many))

    def keep(self, order, needs, runs):
        """Keep the runs of the rooms that each thing holds; the classes beneath work them out otherwise."""
        self.order = order
        self.needs = needs
        self.runs = runs
        self.spans = spans_of(runs)

    @property
    def room_count(self):
        """The greatest room that is held, 0 if there is none."""
        return sum([count for count, _ in self.spans])

    def rooms_of(self, x):
        """Return the rooms of x, an ascending tuple of runs."""
        check_thing(len(self.runs), x)
        return self.runs[x]

    def last_of(self, x):
        """Return the greatest room of x, 0 if it holds none."""
        check_thing(len(self.runs), x)
        return max([last for _, last in self.runs[x]], default=0)

    def lot_at(self, room):
        """Return the things that hold the room, an ascending tuple."""
        check_number(room, "room", 1)
        below = 0
        for count, lot in self.spans:
            below = below + count
            if room <= below:
                return lot
        return ()

    def holds(self, things, room):
        """Tell whether one of the things holds the room."""
        held = check_things(len(self.runs), things)
        check_number(room, "room", 1)
        return any([holds_room(self.runs[thing], room) for thing in held])

    def holds_all(self, things):
        """Tell whether the things hold each room from 1 to the room count."""
        held = check_things(len(self.runs), things)
        return all([meets(held, lot) for _, lot in self.spans])

    def __getitem__(self, at):
        return self.lot_at(at)

    def __len__(self):
        return len(self.spans)

    def __iter__(self):
        return iter(self.spans)

    def __eq__(self, other):
        return isinstance(other, Book) and self.spans == other.spans


def taken_first(order, things):
    """Return the first lot of these things, an ascending tuple."""
    lot = 0
    for thing in order.row:
        if thing in things and order.web.masks[thing] & lot == 0:
            lot = lot | (1 << thing)
    return things_in(lot)


def book_by_rooms(order, needs=None):
    """Return the spans of the book, worked out room by room."""
    left = list(check_needs(len(order), needs))
    spans = []
    while any([need > 0 for need in left]):
        lot = taken_first(order, needy_things(left))
        # The lot stays the same until one of its things has all its rooms.
        count = min([left[thing] for thing in lot])
        spans.append((count, lot))
        for thing in lot:
            left[thing] = left[thing] - count
    return tuple(spans)


def room_count(order, needs=None):
    """Return the room count of the book."""
    return Book(order, needs).room_count


def first_lot(order, part=None):
    """Return the first lot of the part, an ascending tuple."""
    return taken_first(order, check_part(len(order), part))


def alike_in_parts(order, other):
    """Return None if both orders book all parts alike, otherwise the least clash that they lead unlike."""
    if order.web != other.web:
        raise BadNumber("web")
    for x, y in order.web.clashes:
        if order.ahead(x, y) != other.ahead(x, y):
            return (x, y)
    return None


def squeezed(spans, things):
    """Return the spans with their lots cut to the things, and without the rooms that then hold nothing."""
    left = []
    for count, lot in spans:
        cut = tuple([thing for thing in sorted(lot) if thing in things])
        if not cut:
            continue
        if left and left[-1][1] == cut:
            left[-1] = (left[-1][0] + count, cut)
        else:
            left.append((count, cut))
    return tuple(left)
