"""Choices of ends of the rows of four, their rings of arrows, and right orders."""

from perfectorders.amounts import is_int, is_thing
from perfectorders.arrows import has_arrow, is_ring, least_ring, no_arrows, row_along, with_arrow
from perfectorders.errors import BadNumber, NoOrder, TooMany
from perfectorders.orders import Order
from perfectorders.quads import is_row, rows_of_four
from perfectorders.right import check_right
from perfectorders.rightsearch import least_right_row, put_ahead, right_rows, some_right_row

MOST_THINGS = 7


def check_choice(web, choice):
    """Return the choice as a tuple."""
    rows = rows_of_four(web)
    if not isinstance(choice, (list, tuple)) or len(choice) != len(rows):
        raise BadNumber("choice")
    for end, (a, _, _, d) in zip(choice, rows):
        if not is_int(end) or end not in (a, d):
            raise BadNumber("choice")
    return tuple(choice)


def choice_of(order):
    """Return for each row of four its lesser end if that is behind its middle, and otherwise the other one."""
    check_right(order)
    return tuple([a if order.ahead(b, a) else d for a, b, c, d in rows_of_four(order.web)])


def arrows_of(web, choice):
    """Return the arrows of the choice: from the middle next to each chosen end to the end."""
    arrows = no_arrows(web.many)
    for end, (a, b, c, _) in zip(check_choice(web, choice), rows_of_four(web)):
        arrows = with_arrow(arrows, b if end == a else c, end)
    return arrows


def fits_choice(order, choice):
    """Tell whether the order has all arrows of the choice lead to things behind."""
    arrows = arrows_of(order.web, choice)
    things = order.row
    return not any([has_arrow(arrows, x, y) and order.ahead(y, x) for x in things for y in things])


def choice_ring(web, choice):
    """Return the least of the shortest rings through the least thing on a ring of arrows, None if there is no ring."""
    return least_ring(arrows_of(web, choice))


def order_of_choice(web, choice):
    """Return the Order with the least row of those that fit the choice."""
    row = row_along(arrows_of(web, choice))
    if row is None:
        raise NoOrder()
    return Order(web, row)


def first_unchosen(rows, arrows):
    """Return the first row of four neither of whose two arrows is chosen, None if there is none."""
    for row in rows:
        a, b, c, d = row
        if not has_arrow(arrows, b, a) and not has_arrow(arrows, c, d):
            return row
    return None


def tree_from(rows, arrows, behind, known):
    """Return the choice tree for the arrows chosen so far; some row of four has none if they have no ring.

    `behind` has for each thing the mask of the things to which arrows lead from it, over others too; it is None
    if there is a ring. `known` keeps the trees: many ways down lead to the same arrows.
    """
    if arrows in known:
        return known[arrows]
    if behind is None:
        tree = least_ring(arrows)
    else:
        row = first_unchosen(rows, arrows)
        a, b, c, d = row
        first = tree_from(rows, with_arrow(arrows, b, a), put_ahead(behind, b, a), known)
        second = tree_from(rows, with_arrow(arrows, c, d), put_ahead(behind, c, d), known)
        tree = (row, first, second)
    known[arrows] = tree
    return tree


def choice_tree(web):
    """Return a choice tree of the web, None if it has a right order."""
    if has_right_order(web):
        return None
    none = no_arrows(web.many)
    return tree_from(rows_of_four(web), none, none, {})


def is_row_of(web, value):
    """Tell whether the value is a tuple that is a row of four of the web."""
    if not isinstance(value, tuple) or len(value) != 4:
        return False
    return all([is_thing(web.many, thing) for thing in value]) and is_row(web, *value)


def is_choice_tree(web, tree):
    """Tell whether the value is a choice tree of the web."""
    # Each entry: what must be a choice tree, and the arrows chosen so far.
    waiting = [(tree, no_arrows(web.many))]
    while waiting:
        value, arrows = waiting.pop()
        if not isinstance(value, tuple):
            return False
        if len(value) == 3 and is_row_of(web, value[0]):
            (a, b, c, d), first, second = value
            waiting.append((second, with_arrow(arrows, c, d)))
            waiting.append((first, with_arrow(arrows, b, a)))
        elif not all([is_thing(web.many, thing) for thing in value]) or not is_ring(arrows, value):
            return False
    return True


def has_right_order(web):
    """Tell whether the web has a right order."""
    return some_right_row(web)


def right_order(web):
    """Return the right Order with the least row."""
    row = least_right_row(web)
    if row is None:
        raise NoOrder()
    return Order(web, row)


def check_few_things(web):
    """Check that the web has few enough things for a walk through all of its right orders."""
    if web.many > MOST_THINGS:
        raise TooMany(MOST_THINGS)


def right_orders(web):
    """Yield all right Orders, ascending by their rows."""
    check_few_things(web)
    for row in right_rows(web):
        yield Order(web, row)


def right_order_count(web):
    """Return the number of right orders."""
    check_few_things(web)
    return len(list(right_rows(web)))
