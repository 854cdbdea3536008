"""Bookings of one room for each thing, settled ones, and the numbers of rooms that they take."""

from perfectorders.amounts import check_number, is_int
from perfectorders.bookingsearch import BookingSearch, fitting_lot, part_ends
from perfectorders.books import Book
from perfectorders.errors import BadBooking, NoneSuch, NotSettled, TooMany
from perfectorders.masks import things_in, whole_mask
from perfectorders.orders import order_by


def check_booking(web, rooms):
    """Return the booking as a tuple."""
    for thing, room in zip(range(web.many), rooms):
        if not is_int(room) or room < 1:
            raise BadBooking(thing)
        if any([rooms[other] == room for other in web.near(thing) if other < thing]):
            raise BadBooking(thing)
    if len(rooms) != web.many:
        raise BadBooking(min(web.many, len(rooms)))
    return tuple(rooms)


def least_free(taken):
    """Return the least room that is not among the taken ones."""
    room = 1
    while room in taken:
        room = room + 1
    return room


def unsettled(web, rooms):
    """Return the least (thing, room) with a room below that of the thing in which nothing clashes with it, or None."""
    booking = check_booking(web, rooms)
    for thing, own in enumerate(booking):
        room = least_free([booking[other] for other in web.near(thing)])
        if room < own:
            return (thing, room)
    return None


def order_of_booking(web, rooms):
    """Return the Order by ascending rooms, things of the same room ascending."""
    gap = unsettled(web, rooms)
    if gap is not None:
        thing, room = gap
        raise NotSettled(thing, room)
    return order_by(web, rooms)


def rooms_row(order):
    """Return the booking that the order makes with needs 1, a tuple."""
    book = Book(order)
    return tuple([book.last_of(thing) for thing in range(len(order))])


def room_ends(web):
    """Return the tuple of the least and the greatest number of rooms over all orders, with needs 1."""
    contrary = ~web
    return part_ends(contrary.masks, whole_mask(web.many), {})


def booking_with(web, many):
    """Return a settled booking whose greatest room is `many`."""
    check_number(many, "many")
    gaps = (~web).masks
    part = whole_mask(web.many)
    known = {}
    least, greatest = part_ends(gaps, part, known)
    if not least <= many <= greatest:
        raise NoneSuch("many")
    rooms = [0] * web.many
    for room in range(1, many + 1):
        lot = fitting_lot(gaps, part, many - room, known)
        for thing in things_in(lot):
            rooms[thing] = room
        part = part & ~lot
    return tuple(rooms)


def settled_bookings(web, *, limit=500):
    """Yield all settled bookings, in ascending order."""
    check_number(limit, "limit", 1)
    search = BookingSearch(web)
    booking = search.least_from(())
    many = 0
    while booking is not None:
        if many == limit:
            raise TooMany(limit)
        yield booking
        many = many + 1
        booking = search.after(booking)
