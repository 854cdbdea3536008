"""Leads: which of two clashing things is ahead, for all clashes of a web."""

from perfectorders.amounts import are_two_things, check_number, check_part, check_thing
from perfectorders.arrows import has_arrow, no_arrows, row_along, with_arrow
from perfectorders.errors import NoneSuch, TooMany
from perfectorders.leadcounts import both_ways, count_leads
from perfectorders.masks import mask_of, things_in, whole_mask
from perfectorders.orders import Order
from perfectorders.quads import ends_of, rows_of_four
from perfectorders.rightsearch import can_be_right, forced, is_behind, put_ahead


def lead_count(web, part=None):
    """Return the number of unlike leads that the orders of the part have."""
    things = check_part(web.many, part)
    return count_leads(web.masks, [], mask_of(things), (0,) * web.many, {})


def right_lead_count(web):
    """Return the number of leads of right orders."""
    rows = both_ways(rows_of_four(web))
    return count_leads(web.masks, rows, whole_mask(web.many), (0,) * web.many, {})


def led(rows, behind, x, y):
    """Return what is known when x is put ahead of y, None if then one of the rows must be bad."""
    known = put_ahead(behind, x, y)
    if known is not None:
        known = forced(rows, known)
    if known is None or not can_be_right(rows, known):
        return None
    return known


def lead_told(web, behind):
    """Return the lead by which each clashing thing is behind or ahead of the other, as known; ascending."""
    return tuple(sorted([(x, y) if is_behind(behind, x, y) else (y, x) for x, y in web.clashes]))


def leads_against(web, rows, limit):
    """Yield the leads of orders in which none of the rows of four is bad, ascending."""
    check_number(limit, "limit", 1)
    many = 0
    waiting = []
    none = no_arrows(web.many)
    if can_be_right(rows, none):
        waiting.append((0, none))
    # Each entry: the number of clashes that are led, and what is known to be behind each thing.
    while waiting:
        place, behind = waiting.pop()
        if place < web.many_clashes:
            x, y = web.clashes[place]
            # The last entry is taken first: leads in which the lesser thing is ahead come first.
            found = [led(rows, behind, y, x), led(rows, behind, x, y)]
            waiting.extend([(place + 1, known) for known in found if known is not None])
        elif many < limit:
            yield lead_told(web, behind)
            many = many + 1
        else:
            raise TooMany(limit)


def leads_of(web, *, limit=2000):
    """Yield all leads of orders, ascending."""
    rows = ()
    yield from leads_against(web, rows, limit)


def right_leads(web, *, limit=2000):
    """Yield all leads of right orders, ascending."""
    rows = rows_of_four(web)
    yield from leads_against(web, rows, limit)


def lead_arrows(web, lead):
    """Return the pairs of the lead as arrows, None if they do not name each clash just once."""
    if not isinstance(lead, (list, tuple)) or len(lead) != web.many_clashes:
        return None
    arrows = no_arrows(web.many)
    for pair in lead:
        if not are_two_things(web.many, pair):
            return None
        x, y = pair
        if not web.clash(x, y) or has_arrow(arrows, x, y) or has_arrow(arrows, y, x):
            return None
        arrows = with_arrow(arrows, x, y)
    return arrows


def row_of_lead(web, lead):
    """Return the least row of all things with this lead, None if there is none."""
    arrows = lead_arrows(web, lead)
    if arrows is None:
        return None
    return row_along(arrows)


def is_lead(web, lead):
    """Tell whether the value names each clash just once, and some order leads all of them so."""
    return row_of_lead(web, lead) is not None


def order_of_lead(web, lead):
    """Return the Order with the least row of those with this lead."""
    row = row_of_lead(web, lead)
    if row is None:
        raise NoneSuch("lead")
    return Order(web, row)


def check_led(order, x, y):
    """Check that x is ahead of y and clashes with it."""
    check_thing(len(order), x)
    check_thing(len(order), y)
    if not order.ahead(x, y) or not order.web.clash(x, y):
        raise NoneSuch("clash")


def things_leading_to(order, y):
    """Return the mask of the things from which a led way leads to y."""
    leading = 1 << y
    for thing in order.row[:order.places[y]][::-1]:
        if order.web.masks[thing] & leading:
            leading = leading | (1 << thing)
    return leading


def other_way(order, x, y):
    """Return the least led way of three or more things from x to y, None if there is none."""
    check_led(order, x, y)
    leading = things_leading_to(order, y)
    fitting = leading & ~(1 << y)
    way = [x]
    while way[-1] != y:
        last = way[-1]
        behind = [thing for thing in things_in(order.web.masks[last] & fitting) if order.ahead(last, thing)]
        if not behind:
            return None
        way.append(behind[0])
        # Only the first step must not lead to y at once.
        fitting = leading
    return tuple(way)


def may_turn(order, x, y):
    """Tell whether some order has the lead in which this clash alone is turned."""
    return other_way(order, x, y) is None


def turned_clash(order, x, y):
    """Return the Order with the least row of those with the lead in which this clash alone is turned."""
    check_led(order, x, y)
    lead = [(y, x) if pair == (x, y) else pair for pair in order.lead()]
    return order_of_lead(order.web, lead)


def turn_breaks(order, x, y):
    """Return the rows of four (y, x, c, d) with d ahead of c, an ascending tuple."""
    check_led(order, x, y)
    rows = ends_of(order.web, y)
    return tuple([row for row in rows if row[1] == x and order.ahead(row[3], row[2])])
