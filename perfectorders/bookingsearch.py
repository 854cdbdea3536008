"""The search for settled bookings.

A booking is settled exactly if the lot of room 1 is a full lot of the web, the lot of room 2
is a full lot of the part of the things that are then left, and so on. So the search goes from
room to room, and needs to know of the rooms below only which things are left.
"""

from perfectorders.masks import full_masks, whole_mask


def part_ends(gaps, part, known):
    """Return the tuple of the least and the greatest number of rooms of settled bookings of the part.

    `gaps` are the near masks of the contrary web; `known` keeps what was found for other parts.
    """
    if part == 0:
        return (0, 0)
    if part not in known:
        ends = [part_ends(gaps, part & ~lot, known) for lot in full_masks(gaps, part)]
        least = 1 + min([low for low, _ in ends])
        greatest = 1 + max([high for _, high in ends])
        known[part] = (least, greatest)
    return known[part]


def fitting_lot(gaps, part, many, known):
    """Return a full lot of the part such that what is left of it has a settled booking of `many` rooms."""
    for lot in full_masks(gaps, part):
        least, greatest = part_ends(gaps, part & ~lot, known)
        if least <= many <= greatest:
            return lot
    return 0


class BookingSearch:
    """Finds the settled bookings of a web one after another, in ascending order."""

    def __init__(self, web):
        self.web = web
        self.gaps = (~web).masks
        self.known = {}

    def full_lots_in(self, part):
        """Return the masks of the full lots of the part."""
        if part not in self.known:
            self.known[part] = full_masks(self.gaps, part)
        return self.known[part]

    def goes_on(self, start, part, room, dead):
        """Tell whether the part has a settled booking, in rooms from `room` on, that agrees with the start.

        `start` is a tuple of the mask of the things whose rooms are told, and of a dict of the masks of
        those told for each room; `dead` keeps what was tried in vain.
        """
        if part == 0:
            return True
        if (part, room) in dead:
            return False
        told, lots = start
        wanted = lots.get(room, 0)
        for lot in self.full_lots_in(part):
            if lot & told == wanted and self.goes_on(start, part & ~lot, room + 1, dead):
                return True
        dead[(part, room)] = True
        return False

    def can_begin(self, rooms):
        """Tell whether some settled booking begins with these rooms of the first things."""
        lots = {}
        for thing, room in enumerate(rooms):
            lots[room] = lots.get(room, 0) | (1 << thing)
        start = (whole_mask(len(rooms)), lots)
        return self.goes_on(start, whole_mask(self.web.many), 1, {})

    def with_room(self, rooms, least):
        """Return the rooms and the least one from `least` on with which they begin a settled booking, or None."""
        thing = len(rooms)
        near = self.web.near(thing)
        taken = [rooms[other] for other in near if other < thing]
        # In a settled booking each room below that of the thing holds another thing near it.
        for room in range(least, len(near) + 2):
            longer = (*rooms, room)
            if room not in taken and self.can_begin(longer):
                return longer
        return None

    def least_from(self, rooms):
        """Return the least settled booking that begins with these rooms; there must be one."""
        booking = rooms
        while len(booking) < self.web.many:
            booking = self.with_room(booking, 1)
        return booking

    def after(self, booking):
        """Return the least settled booking above this one, or None."""
        for place in reversed(range(len(booking))):
            longer = self.with_room(booking[:place], booking[place] + 1)
            if longer is not None:
                return self.least_from(longer)
        return None
