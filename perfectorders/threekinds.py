"""Kinds of orders, told by where the middles of threes stand."""

from perfectorders.amounts import check_things, needs_on
from perfectorders.errors import BadNumber
from perfectorders.orders import put_in_order
from perfectorders.quads import threes


def between(order):
    """Return the threes whose middle is between the ends, ascending by (m, x, y)."""
    return tuple([(x, m, y) for x, m, y in threes(order.web) if order.ahead(x, m) == order.ahead(m, y)])


def middle_last(order):
    """Return the threes whose middle is behind both ends, ascending by (m, x, y)."""
    return tuple([(x, m, y) for x, m, y in threes(order.web) if order.ahead(x, m) and order.ahead(y, m)])


def is_passing(order):
    """Tell whether no three has its middle between the ends."""
    return not between(order)


def is_gathered(order):
    """Tell whether no three has its middle behind both ends."""
    return not middle_last(order)


def is_middles_first(order):
    """Tell whether each three has its middle ahead of both ends."""
    return is_passing(order) and is_gathered(order)


def three_needs(web, three):
    """Return the needs 1 on the things of the three and 0 elsewhere, a tuple."""
    return needs_on(web.many, check_things(web.many, three))


def put_in_kinds(outer, orders):
    """Return whether the order put in is passing, and whether it is gathered, a pair."""
    if any([len(order) == 0 for order in orders]):
        raise BadNumber("orders")
    whole = put_in_order(outer, orders)
    return (is_passing(whole), is_gathered(whole))


def lesser_things(order, x):
    """Return the things that must have a lesser number than x, a list."""
    # Of two clashing things the one ahead has the greater number, of two that are a gap the one behind.
    return [y for y in range(len(order)) if y != x and order.ahead(x, y) == order.web.clash(x, y)]


def numbers_for(order):
    """Return the numbers 1 .. many that fall along clashes and rise along gaps, None if there are none."""
    numbers = tuple([1 + len(lesser_things(order, x)) for x in range(len(order))])
    # If the numbers are unlike, then just the lesser things have lesser numbers.
    if len(set(numbers)) < len(numbers):
        return None
    return numbers
