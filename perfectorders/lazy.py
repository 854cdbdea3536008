"""Lazy bookings: each thing takes any room in use that it may take, and a new one only if there is none."""

from perfectorders.amounts import check_number, with_entry
from perfectorders.errors import TooMany
from perfectorders.orders import Order
from perfectorders.settled import check_booking
from perfectorders.threekinds import middle_last
from perfectorders.webs import Web


def lazy_rooms(order, held, thing):
    """Return the rooms that the thing may take, ascending; `held` has the rooms of the things ahead and else 0."""
    used = max(held)
    near = [held[other] for other in order.web.near(thing)]
    free = [room for room in range(1, used + 1) if room not in near]
    if free:
        return free
    return [used + 1]


def lazy_bookings(order, *, limit=500):
    """Yield all lazy bookings; at the first thing of the order at which two differ the lesser room comes first."""
    check_number(limit, "limit", 1)
    many = 0
    # Each entry: the number of things that have a room, and the room of each thing, 0 if it has none yet.
    waiting = [(0, (0,) * len(order))]
    while waiting:
        place, held = waiting.pop()
        if place < len(order):
            thing = order.row[place]
            for room in lazy_rooms(order, held, thing)[::-1]:
                waiting.append((place + 1, with_entry(held, thing, room)))
        elif many < limit:
            yield held
            many = many + 1
        else:
            raise TooMany(limit)


def is_lazy(order, rooms):
    """Tell whether the rooms are a lazy booking of the order."""
    booking = check_booking(order.web, rooms)
    held = (0,) * len(order)
    for thing in order.row:
        if booking[thing] not in lazy_rooms(order, held, thing):
            return False
        held = with_entry(held, thing, booking[thing])
    return True


def with_pair(order):
    """Return the Order with two new things in front that clash with one another alone."""
    many = len(order)
    return Order(order.web + Web.full(2), [many, many + 1, *order.row])


def lazy_counter(order):
    """Return a part of `with_pair` and a lazy booking of it with 3 rooms, None if the order is gathered."""
    found = middle_last(order)
    if not found:
        return None
    x, m, y = found[0]
    many = len(order)
    rooms = {x: 1, y: 2, m: 3, many: 1, many + 1: 2}
    part = tuple(sorted(rooms))
    return (part, tuple([rooms[thing] for thing in part]))
