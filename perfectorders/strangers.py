"""Strangers: what some things cost the others."""

from perfectorders.amounts import check_number, check_place, check_things, lowered, meets, needs_off
from perfectorders.knots import heaviest
from perfectorders.orders import Order
from perfectorders.right import bad_rows
from perfectorders.webs import Web


def held_by(book, things):
    """Return the number of rooms that hold at least one of the things."""
    chosen = check_things(len(book.order), things)
    return sum([count for count, lot in book.spans if meets(lot, chosen)])


def free_of(book, things):
    """Return the number of rooms that hold something but none of the things."""
    chosen = check_things(len(book.order), things)
    return sum([count for count, lot in book.spans if lot and not meets(lot, chosen)])


def met_by(book, strangers):
    """Return the number of met rooms, those with a stranger whose other things meet every heaviest knot left."""
    web = book.order.web
    chosen = check_things(web.many, strangers)
    left = needs_off(book.needs, chosen)
    met = 0
    for count, lot in book.spans:
        others = [thing for thing in lot if thing not in chosen]
        if len(others) < len(lot):
            # With each met room the knots that the others meet grow lighter, and the rest do not:
            # no room is met once one of the rest is as heavy.
            ahead = heaviest(web, left) - heaviest(web, needs_off(left, others))
            met = met + min(count, ahead)
        left = lowered(left, others, count)
    return met


def outside_bad(order, strangers):
    """Return the bad rows that contain no stranger, an ascending tuple."""
    chosen = check_things(len(order), strangers)
    return tuple([row for row in bad_rows(order) if not meets(row, chosen)])


def with_stranger(order, near, place):
    """Return the Order with one thing more at the place, which clashes with just the things in `near`."""
    web = order.web.with_thing(near)
    check_place(web.many, place)
    return Order(web, [*order.row[:place], order.web.many, *order.row[place:]])


def worst_strangers(order, many):
    """Return the Order with `many` new things in front, which clash with all things and with one another."""
    check_number(many, "many")
    new = [len(order) + number for number in range(many)]
    return Order(order.web * Web.full(many), [*new, *order.row])


def high_things(book, room):
    """Return the things that hold a room above this one, an ascending tuple."""
    check_number(room, "room")
    return tuple([thing for thing in range(len(book.order)) if book.last_of(thing) > room])
