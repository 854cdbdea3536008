"""Rooms that are filled one by one, some of them by a foe."""

from perfectorders.amounts import check_needs, check_things, lowered, meets, needy_things
from perfectorders.books import taken_first
from perfectorders.errors import NoneSuch
from perfectorders.knots import check_lot, heaviest, heaviest_knots


class FoeBook:
    """Rooms of an order, each filled as they come, or at will by a foe."""

    def __init__(self, order, needs=None):
        self.order = order
        self.needs = check_needs(len(order), needs)
        self.left = self.needs
        self.filled = []
        self.own_rooms = 0
        self.will_rooms = 0
        self.met_rooms = 0

    @property
    def now_left(self):
        """The needs left, a tuple."""
        return self.left

    @property
    def heavy(self):
        """The heaviest weight by the needs left."""
        return heaviest(self.order.web, self.left)

    @property
    def own_many(self):
        """The number of rooms filled as they come."""
        return self.own_rooms

    @property
    def will_many(self):
        """The number of rooms filled at will."""
        return self.will_rooms

    @property
    def met_many(self):
        """The number of met rooms among those filled at will."""
        return self.met_rooms

    def fill(self, lot, count):
        """Fill the next `count` rooms with the lot."""
        self.left = lowered(self.left, lot, count)
        if self.filled and self.filled[-1][1] == lot:
            self.filled[-1] = (self.filled[-1][0] + count, lot)
        else:
            self.filled.append((count, lot))

    def own(self):
        """Fill the next room as they come, and return its lot."""
        needy = needy_things(self.left)
        if not needy:
            raise NoneSuch("left")
        lot = taken_first(self.order, needy)
        self.fill(lot, 1)
        self.own_rooms = self.own_rooms + 1
        return lot

    def will(self, lot):
        """Fill the next room at will with the lot, and return it."""
        things = check_things(len(self.order), lot)
        check_lot(self.order.web, things)
        if any([self.left[thing] == 0 for thing in things]):
            raise NoneSuch("need")
        # Where no need is left the heaviest knot is empty, so nothing meets it.
        if all([meets(things, knot) for knot in heaviest_knots(self.order.web, self.left)]):
            self.met_rooms = self.met_rooms + 1
        self.fill(things, 1)
        self.will_rooms = self.will_rooms + 1
        return things

    def spans_so_far(self):
        """Return the spans of the rooms filled so far, a tuple."""
        return tuple(self.filled)

    def finish(self):
        """Fill rooms as they come until no need is left, and return their number."""
        before = self.own_rooms
        while needy_things(self.left):
            lot = taken_first(self.order, needy_things(self.left))
            # The lot stays the same until one of its things has all its rooms.
            count = min([self.left[thing] for thing in lot])
            self.fill(lot, count)
            self.own_rooms = self.own_rooms + count
        return self.own_rooms - before
