"""Mending an order by taking things out and putting them back."""

from perfectorders.amounts import check_needs, check_things, meets, needs_off
from perfectorders.asks import first_place, floors_and_roofs, last_place
from perfectorders.books import Book
from perfectorders.errors import TooMany
from perfectorders.knots import heaviest
from perfectorders.masks import least_meeting, mask_of
from perfectorders.right import bad_rows
from perfectorders.strangers import held_by

MOST_THINGS = 10


def meets_all_bad(order, things):
    """Tell whether each bad row contains one of the things."""
    chosen = check_things(len(order), things)
    return all([meets(row, chosen) for row in bad_rows(order)])


def least_mendings(order):
    """Return all sets of the least number of things that mend the order, ascending."""
    if len(order) > MOST_THINGS:
        raise TooMany(MOST_THINGS)
    return least_meeting(len(order), [mask_of(row) for row in bad_rows(order)])


def mended(order, things):
    """Return the pair of the row of the things that stand when the order is mended, and the things that stay out."""
    chosen = check_things(len(order), things)
    row = [thing for thing in order.row if thing not in chosen]
    out = []
    for thing in chosen:
        floors, roofs = floors_and_roofs(order.web, row, thing, "F")
        place = first_place(row, floors)
        if place <= last_place(row, roofs):
            row.insert(place, thing)
        else:
            out.append(thing)
    return (tuple(row), tuple(out))


def mending_price(order, things, needs=None):
    """Return the heaviest weight without the things, the number of rooms that hold one of them, and of all rooms."""
    chosen = check_things(len(order), things)
    told = check_needs(len(order), needs)
    book = Book(order, told)
    return (heaviest(order.web, needs_off(told, chosen)), held_by(book, chosen), book.room_count)
