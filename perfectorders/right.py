"""Right orders, and what shows that an order is not right."""

from perfectorders.amounts import needs_on
from perfectorders.errors import NotRight
from perfectorders.quads import rows_of_four


def bad_rows(order):
    """Return the bad rows, an ascending tuple."""
    return tuple([(a, b, c, d) for a, b, c, d in rows_of_four(order.web)
                  if order.ahead(a, b) and order.ahead(d, c)])


def first_bad(order):
    """Return the first bad row, or None if the order is right."""
    rows = bad_rows(order)
    if rows:
        return rows[0]
    return None


def is_right(order):
    """Tell whether the order is right."""
    return first_bad(order) is None


def check_right(order):
    """Return the order, which must be right."""
    row = first_bad(order)
    if row is not None:
        raise NotRight(row)
    return order


def counter_part(order):
    """Return the things of the first bad row, an ascending tuple; None if the order is right."""
    row = first_bad(order)
    if row is None:
        return None
    return tuple(sorted(row))


def counter_needs(order):
    """Return needs of 1 and more with more rooms than the heaviest knot weighs; None if the order is right."""
    row = first_bad(order)
    if row is None:
        return None
    many = len(order)
    return tuple([2 * many if thing in row else 1 for thing in range(many)])


def counter_pair(order):
    """Return the pair of needs that take more rooms together than apart; None if the order is right."""
    row = first_bad(order)
    if row is None:
        return None
    a, b, c, d = row
    return (needs_on(len(order), (a, c)), needs_on(len(order), (b, d)))
