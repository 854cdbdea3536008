"""The search for right orders.

What is known of an order is a tuple `behind` with, for each thing, the mask of all things that must be behind
it; it is closed: what is behind a thing that is behind x is behind x, too.
"""

from perfectorders.quads import middles_of, rows_of_four


def is_behind(behind, x, y):
    """Tell whether y must be behind x."""
    return (behind[x] >> y) & 1 == 1


def put_ahead(behind, x, y):
    """Return what is known when x is put ahead of y, None if x must be behind y."""
    if is_behind(behind, y, x):
        return None
    gained = behind[y] | (1 << y)
    return tuple([mask | gained if thing == x or (mask >> x) & 1 else mask for thing, mask in enumerate(behind)])


def pair_forced(row, behind):
    """Return the pair (ahead, behind) without which the row of four would be bad, None if there is none."""
    a, b, c, d = row
    if is_behind(behind, b, a) or is_behind(behind, c, d):
        return None
    if is_behind(behind, a, b):
        return (c, d)
    if is_behind(behind, d, c):
        return (b, a)
    return None


def forced(rows, behind):
    """Return what is known when the rows of four must not be bad, None if one of them must be."""
    changed = True
    while changed:
        changed = False
        for row in rows:
            pair = pair_forced(row, behind)
            if pair is not None:
                behind = put_ahead(behind, *pair)
                changed = True
            if behind is None:
                return None
    return behind


def first_open(rows, behind):
    """Return the first row of four of which neither end must be behind its middle, None if there is none."""
    for row in rows:
        a, b, c, d = row
        if not is_behind(behind, b, a) and not is_behind(behind, c, d):
            return row
    return None


def can_be_right(rows, behind):
    """Tell whether some order that agrees with what is known has no bad row; `rows` are all rows of four."""
    known = forced(rows, behind)
    if known is None:
        return False
    row = first_open(rows, known)
    if row is None:
        return True
    a, b, _, _ = row
    return can_be_right(rows, put_ahead(known, b, a)) or can_be_right(rows, put_ahead(known, a, b))


def put_first(behind, x, others):
    """Return what is known when x is put ahead of all others, None if it must be behind one of them."""
    for other in others:
        if behind is not None:
            behind = put_ahead(behind, x, other)
    return behind


def some_right_row(web):
    """Tell whether some row of all things is a right order."""
    return can_be_right(rows_of_four(web), (0,) * web.many)


def next_thing(rows, behind, left):
    """Return the least thing that may come ahead of all others that are left, and what is known then, a pair.

    There must be one.
    """
    for thing in left[:-1]:
        known = put_first(behind, thing, [other for other in left if other != thing])
        if known is not None and can_be_right(rows, known):
            return (thing, known)
    return (left[-1], put_first(behind, left[-1], left[:-1]))


def least_right_row(web):
    """Return the least row that is a right order, None if there is none."""
    if not some_right_row(web):
        return None
    rows = rows_of_four(web)
    behind = (0,) * web.many
    row = []
    left = list(range(web.many))
    while left:
        thing, behind = next_thing(rows, behind, left)
        row.append(thing)
        left.remove(thing)
    return tuple(row)


def may_come(readings, row):
    """Tell whether a thing may come behind the row; `readings` are the rows of four read so that it is second."""
    for a, _, c, d in readings:
        if a in row and c in row and d in row[:row.index(c)]:
            return False
    return True


def right_rows(web):
    """Yield all rows that are right orders, in ascending order."""
    readings = [middles_of(web, thing) for thing in range(web.many)]
    waiting = [()]
    while waiting:
        row = waiting.pop()
        if len(row) == web.many:
            yield row
        for thing in reversed(range(web.many)):
            if thing not in row and may_come(readings[thing], row):
                waiting.append((*row, thing))
