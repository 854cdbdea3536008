"""Rows of four and threes."""

from perfectorders.amounts import check_part, check_thing
from perfectorders.masks import things_in


def rows_of_four(web):
    """Return all rows of four, each once, with a < d, an ascending tuple."""
    masks = web.masks
    found = []
    for b in range(web.many):
        for c in things_in(masks[b]):
            for a in things_in(masks[b] & ~masks[c] & ~(1 << c)):
                fourth = masks[c] & ~masks[b] & ~masks[a] & ~(1 << b)
                found.extend([(a, b, c, d) for d in things_in(fourth) if a < d])
    return tuple(sorted(found))


def is_row(web, a, b, c, d):
    """Tell whether (a, b, c, d) is a row of four."""
    for thing in (a, b, c, d):
        check_thing(web.many, thing)
    # No test for equal things is needed: nothing clashes with itself, and with a = c, b = d
    # or a = d one pair would have to clash and be a gap.
    if web.clash(a, c) or web.clash(b, d) or web.clash(a, d):
        return False
    return web.clash(a, b) and web.clash(b, c) and web.clash(c, d)


def threes(web):
    """Return all threes (x, m, y) with x < y, a tuple that ascends by (m, x, y)."""
    found = []
    for m in range(web.many):
        near = web.near(m)
        found.extend([(x, m, y) for x in near for y in near if x < y and not web.clash(x, y)])
    return tuple(found)


def contrary_row(row):
    """Return the row of four of the contrary web on the same things, read with its lesser end first."""
    a, b, c, d = row
    if b < c:
        return (b, d, a, c)
    return (c, a, d, b)


def rows_within(web, things):
    """Return the rows of four all of whose things are among these, a list."""
    return [row for row in rows_of_four(web) if all([thing in things for thing in row])]


def ends_of(web, thing, part=None):
    """Return the rows of four within the part that have the thing as an end, read from it."""
    check_thing(web.many, thing)
    found = []
    for row in rows_within(web, check_part(web.many, part)):
        if row[0] == thing:
            found.append(row)
        elif row[3] == thing:
            found.append(row[::-1])
    return tuple(sorted(found))


def middles_of(web, thing, part=None):
    """Return the rows of four within the part that have the thing as a middle, read so that it is second."""
    check_thing(web.many, thing)
    found = []
    for row in rows_within(web, check_part(web.many, part)):
        if row[1] == thing:
            found.append(row)
        elif row[2] == thing:
            found.append(row[::-1])
    return tuple(sorted(found))
