"""What first lots meet, lots left out, and first rooms taken off."""

from perfectorders.amounts import check_number, check_part, check_things, meets, needs_on
from perfectorders.books import first_lot, room_count
from perfectorders.errors import BadPart, NoneSuch
from perfectorders.knots import check_knot, check_lot, full_knots
from perfectorders.right import first_bad
from perfectorders.runs import rooms_below


def missed_knots(order, part=None):
    """Return the full knots of the part that hold a thing but none of its first lot, ascending."""
    things = check_part(len(order), part)
    lot = first_lot(order, things)
    return tuple([knot for knot in full_knots(order.web, things) if knot and not meets(knot, lot)])


def missed_part(order):
    """Return the things of the first bad row and the things of its middles; None if the order is right."""
    row = first_bad(order)
    if row is None:
        return None
    a, b, c, d = row
    return (tuple(sorted((a, b, c, d))), tuple(sorted((b, c))))


def common_thing(order, knot, lot):
    """Return the least thing of the lot that clashes with all of the knot and is ahead of one of it, or None."""
    web = order.web
    things = check_things(web.many, knot)
    if not things:
        raise BadPart(0)
    others = check_things(web.many, lot)
    check_knot(web, things)
    check_lot(web, others)
    for thing in things:
        if not meets(order.ahead_of(thing), others):
            raise NoneSuch("ahead")
    for other in others:
        clashing = all([web.clash(x, other) for x in things])
        if clashing and any([order.ahead(other, x) for x in things]):
            return other
    return None


def left_out(order, lots, part=None):
    """Return how many rooms fewer the part takes without the things of the lots, with needs 1."""
    many = len(order)
    gone = [check_things(many, lot) for lot in lots]
    things = check_part(many, part)
    for lot in gone:
        check_lot(order.web, lot)
    rest = [thing for thing in things if all([thing not in other for other in gone])]
    return room_count(order, needs_on(many, things)) - room_count(order, needs_on(many, rest))


def first_rooms_out(book, many):
    """Return the needs that are left when the first `many` rooms are taken off, a tuple."""
    check_number(many, "many")
    return tuple([need - rooms_below(book.rooms_of(thing), many + 1) for thing, need in enumerate(book.needs)])
