"""Climbs, and knots that hold every room of a book."""

from perfectorders.amounts import check_number, check_thing, check_things, meets
from perfectorders.errors import NoneSuch
from perfectorders.knots import check_knot, heaviest_knots
from perfectorders.right import check_right


def things_that_join(web, knot, lot):
    """Return the things of the lot that clash with all things of the knot, an ascending tuple."""
    return tuple([thing for thing in lot if all([web.clash(thing, other) for other in knot])])


def climb_from(book, thing):
    """Return the climb of the needy thing, whose order must be right."""
    knot = [thing]
    reached = False
    # A thing that is added at the greatest room of a span holds all rooms of the span.
    for _, lot in book.spans[::-1]:
        reached = reached or thing in lot
        if reached and not meets(knot, lot):
            knot.append(things_that_join(book.order.web, knot, lot)[0])
    return tuple(sorted(knot))


def climb(book, thing):
    """Return the climb of the thing, an ascending tuple."""
    check_thing(len(book.order), thing)
    check_right(book.order)
    if book.needs[thing] == 0:
        raise NoneSuch("need")
    return climb_from(book, thing)


def top_knot(book):
    """Return the climb of the least thing that holds the greatest room, () if there is no room."""
    check_right(book.order)
    if book.room_count == 0:
        return ()
    return climb_from(book, book.lot_at(book.room_count)[0])


def holding_knots(book):
    """Return the knots of needy things that hold every room, ascending."""
    # Such a knot weighs as much as there are rooms, and no knot weighs more.
    knots = heaviest_knots(book.order.web, book.needs)
    return tuple([knot for knot in knots if book.holds_all(knot)])


def is_best(book):
    """Tell whether some knot holds every room."""
    return len(holding_knots(book)) > 0


def reaches(book, knot, room):
    """Return the things that hold the room and clash with all things of the knot, an ascending tuple."""
    web = book.order.web
    things = check_things(web.many, knot)
    check_number(room, "room", 1)
    check_knot(web, things)
    return things_that_join(web, things, book.lot_at(room))
