"""Twofold orders: they serve the web and, turned, its contrary."""

from perfectorders.amounts import check_needs, check_part
from perfectorders.books import Book, first_lot, taken_first
from perfectorders.climbs import top_knot
from perfectorders.errors import NotTwofold
from perfectorders.kinds import first_against, keeps, letter_order


def is_twofold(order):
    """Tell whether no row of four begins with an end and closes with a middle."""
    return keeps(order, "FD")


def check_twofold(order):
    """Return the order, which must be twofold."""
    # A row is bad in F or in D just if it begins with an end and closes with a middle.
    row = first_against(order, "FD")
    if row is not None:
        raise NotTwofold(row)
    return order


def first_knot(order, part=None):
    """Return the first knot of the part, an ascending tuple."""
    things = check_part(len(order), part)
    return taken_first(letter_order(order, "D"), things)


def shared_thing(order, part=None):
    """Return the thing that the first lot and the first knot of the part have in common, None if there is none."""
    things = check_part(len(order), part)
    lot = first_lot(order, things)
    shared = [thing for thing in first_knot(order, things) if thing in lot]
    if shared:
        return shared[0]
    return None


class Fourfold:
    """What a twofold order tells of the web and of its contrary at the same needs."""

    def __init__(self, order, needs=None):
        self.order = order
        self.needs = check_needs(len(order), needs)
        check_twofold(order)
        book = Book(order, self.needs)
        second = Book(letter_order(order, "D"), self.needs)
        self.rooms = book.room_count
        self.knot = top_knot(book)
        self.knots = second.room_count
        self.cover_spans = second.spans
        self.lot_told = top_knot(second)
