"""Rows of four and threes."""

from perfectorders.amounts import check_part, check_thing
from perfectorders.masks import things_in


def rows_of_four(web):
    """Return all rows of four, each once, with a < d, an ascending tuple."""
    masks = web.masks
    found = []
    for b in range(web.many):
        for c in things_in(masks[b]):
            for a in things_in(masks[b] & ~masks[c] & ~(1 << c)):
                fourth = masks[c] & ~masks[b] & ~masks[a] & ~(1 << b)
                found.extend([(a, b, c, d) for d in things_in(fourth) if a < d])
    return tuple(sorted(found))


def is_row(web, a, b, c, d):
    """Tell whether (a, b, c, d) is a row of four."""
    for thing in (a, b, c, d):
        check_thing(web.many, thing)
    # No test for equal things is needed: nothing clashes with itself, and with a = c, b = d
    # or a = d one pair would have to clash and be a gap.
    if web.clash(a, c) or web.clash(b, d) or web.clash(a, d):
        return False
    return web.clash(a, b) and web.clash(b, c) and web.clash(c, d)


def threes(web):
    """Return all threes (x, m, y) with x < y, a tuple that ascends by (m, x, y)."""
    found = []
    for m in range(web.many):
        near = web.near(m)
        found.extend([(x, m, y) for x in near for y in near if x < y and not web.clash(x, y)])
    return tuple(found)


def contrary_row(row):
    """Return the row of four of the contrary web on the same things, read with its lesser end first."""
    a, b, c, d = row
    if b < c:
        return (b, d, a, c)
    return (c, a, d, b)


def rows_with(web, thing, part, place):
    """Return the rows of four within the part, read so that the thing stands at the place, an ascending tuple."""
    check_thing(web.many, thing)
    things = check_part(web.many, part)
    rows = [row for row in rows_of_four(web) if all([x in things for x in row])]
    turned = [row[::-1] for row in rows]
    return tuple(sorted([row for row in [*rows, *turned] if row[place] == thing]))


def ends_of(web, thing, part=None):
    """Return the rows of four within the part that have the thing as an end, read from it."""
    return rows_with(web, thing, part, 0)


def middles_of(web, thing, part=None):
    """Return the rows of four within the part that have the thing as a middle, read so that it is second."""
    return rows_with(web, thing, part, 1)
