"""Where a new thing may come into an order."""

from perfectorders.amounts import check_number, check_thing, is_int
from perfectorders.asks import first_place, floors_and_roofs, forbidding_rows, last_place
from perfectorders.errors import BadNumber, NoneSuch, NoPlace
from perfectorders.orders import Order, checked_row_of
from perfectorders.quads import ends_of, middles_of
from perfectorders.right import bad_rows


def check_others(web, others, thing):
    """Return the row of all things of the web but this one as a tuple."""
    check_thing(web.many, thing)
    return checked_row_of([other for other in range(web.many) if other != thing], others)


def check_unlike_letters(letters):
    """Return the text of letters, none of which may stand in it twice."""
    if not isinstance(letters, str) or len(set(letters)) < len(letters):
        raise BadNumber("letters")
    if any([letter not in Order.LETTERS for letter in letters]):
        raise BadNumber("letters")
    return letters


def check_place_among(others, place):
    """Return the place, one of 0 to the number of the others."""
    check_number(place, "place")
    if place > len(others):
        raise BadNumber("place")
    return place


def order_with(web, others, thing, place):
    """Return the Order of the others with the thing put in at the place."""
    return Order(web, [*others[:place], thing, *others[place:]])


class Stretch:
    """The places among the others at which a new thing does no harm by some letters."""

    __slots__ = ("web", "others", "thing", "letters", "floors", "roofs")

    def __init__(self, web, others, thing, letters="F"):
        self.web = web
        self.others = check_others(web, others, thing)
        self.thing = thing
        self.letters = check_unlike_letters(letters)
        self.floors, self.roofs = floors_and_roofs(web, self.others, thing, letters)

    @property
    def first(self):
        """The first place behind all floors."""
        return first_place(self.others, self.floors)

    @property
    def last(self):
        """The last place ahead of all roofs."""
        return last_place(self.others, self.roofs)

    @property
    def is_none(self):
        """Whether there is no place."""
        return self.first > self.last

    def has(self, place):
        """Tell whether the value is one of the places."""
        return is_int(place) and self.first <= place <= self.last

    def place_list(self):
        """Return the places, an ascending tuple."""
        return tuple(range(self.first, self.last + 1))

    def order_at(self, place):
        """Return the Order with the thing at the place."""
        check_place_among(self.others, place)
        return order_with(self.web, self.others, self.thing, place)

    def two_rows(self):
        """Return the pair of rows that together forbid all places."""
        if not self.is_none:
            raise NoneSuch("rows")
        return forbidding_rows(self.others, self.floors, self.roofs)

    def __bool__(self):
        return not self.is_none

    def __len__(self):
        return len(self.place_list())


def places_for(web, others, thing, letters="F"):
    """Return the Stretch of the thing among the others."""
    return Stretch(web, others, thing, letters)


def put_first(web, others, thing):
    """Return the Order with the thing at the first place of its stretch for F."""
    stretch = Stretch(web, others, thing)
    if stretch.is_none:
        floor_row, roof_row = stretch.two_rows()
        raise NoPlace(floor_row, roof_row)
    return stretch.order_at(stretch.first)


def moves_of(order, thing, letters="F"):
    """Return the Stretch of the thing among the other things of the order."""
    check_thing(len(order), thing)
    return Stretch(order.web, [other for other in order.row if other != thing], thing, letters)


def may_be_first(web, thing):
    """Tell whether the thing is an end of no row of four."""
    return not ends_of(web, thing)


def may_be_last(web, thing):
    """Tell whether the thing is a middle of no row of four."""
    return not middles_of(web, thing)


def new_bad(web, others, thing, place):
    """Return the bad rows with the thing when it stands at the place, ascending."""
    row = check_others(web, others, thing)
    order = order_with(web, row, thing, check_place_among(row, place))
    return tuple([bad for bad in bad_rows(order) if thing in bad])
