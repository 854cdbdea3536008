"""Books in which some things hold told rooms already."""

from perfectorders.amounts import check_needs, is_int
from perfectorders.books import Book, booked_runs
from perfectorders.errors import BadBooking
from perfectorders.runs import runs_of
from perfectorders.strangers import free_of


def are_unlike_rooms(value):
    """Tell whether the value is a list or tuple of unlike rooms."""
    if not isinstance(value, (list, tuple)):
        return False
    if any([not is_int(room) or room < 1 for room in value]):
        return False
    return len(set(value)) == len(value)


def share_room(rooms, others):
    """Tell whether the two rows of rooms have one in common."""
    known = set(rooms)
    return any([room in known for room in others])


def checked_rooms(web, rooms):
    """Return the rooms that each thing holds already, a tuple of ascending tuples."""
    for thing, own in zip(range(web.many), rooms):
        if not are_unlike_rooms(own):
            raise BadBooking(thing)
        if any([share_room(own, rooms[other]) for other in web.near(thing) if other < thing]):
            raise BadBooking(thing)
    if len(rooms) != web.many:
        raise BadBooking(min(web.many, len(rooms)))
    return tuple([tuple(sorted(own)) for own in rooms])


class AheadBook(Book):
    """The book of an order in which some things are booked ahead."""

    def __init__(self, order, rooms, needs=None):
        self.rooms_ahead = checked_rooms(order.web, rooms)
        self.ahead_things = tuple([thing for thing, own in enumerate(self.rooms_ahead) if own])
        told = check_needs(len(order), needs)
        ahead = [runs_of(own) for own in self.rooms_ahead]
        self.keep(order, told, booked_runs(order, told, (1,) * len(order), ahead))

    @property
    def own_count(self):
        """The number of rooms that hold something but nothing booked ahead."""
        return free_of(self, self.ahead_things)
