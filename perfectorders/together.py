"""Needs added up: their rooms together, apart and half-way."""

from perfectorders.amounts import check_needs
from perfectorders.books import Book, room_count
from perfectorders.errors import NoneSuch
from perfectorders.knots import heaviest_knots


def sum_needs(needs, other):
    """Return the needs added up thing by thing, a tuple."""
    told = check_needs(len(needs), needs)
    more = check_needs(len(needs), other)
    return tuple([one + two for one, two in zip(told, more)])


def checked_pair(order, needs, other):
    """Return the pair of both needs as tuples."""
    told = check_needs(len(order), needs)
    return (told, check_needs(len(order), other))


def gap_together(order, needs, other):
    """Return how many rooms fewer both needs take together than apart."""
    told, more = checked_pair(order, needs, other)
    return room_count(order, told) + room_count(order, more) - room_count(order, sum_needs(told, more))


def common_best(order, needs, other):
    """Return the least knot that holds every room of both books, None if there is none."""
    told, more = checked_pair(order, needs, other)
    book = Book(order, told)
    second = Book(order, more)
    # Such a knot weighs as much as both books have rooms, and no knot weighs more by the sum.
    for knot in heaviest_knots(order.web, sum_needs(told, more)):
        if book.holds_all(knot) and second.holds_all(knot):
            return knot
    return None


def bulge(order, needs, other):
    """Return how many rooms more both needs take than twice the needs half-way between them."""
    told, more = checked_pair(order, needs, other)
    total = sum_needs(told, more)
    if any([need % 2 == 1 for need in total]):
        raise NoneSuch("half")
    half = tuple([need // 2 for need in total])
    return room_count(order, told) + room_count(order, more) - 2 * room_count(order, half)
