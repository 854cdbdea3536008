"""Rings of things, which tell of webs that have no right order."""

from perfectorders.amounts import check_number, check_part
from perfectorders.errors import BadNumber, NoneSuch
from perfectorders.masks import least_in, mask_of, things_in, whole_mask
from perfectorders.right import bad_rows


def row_round(masks, part):
    """Return the things of the part, a mask in which each has two neighbours, round the ring of the least one."""
    first = least_in(part)
    row = [first, least_in(masks[first] & part)]
    after = least_in(masks[row[1]] & part & ~(1 << first))
    while after != first:
        before = row[-1]
        row.append(after)
        after = least_in(masks[after] & part & ~(1 << before))
    return tuple(row)


def ring_row(web, part):
    """Return the things round the ring if the part is a ring of four or more things, otherwise None."""
    things = check_part(web.many, part)
    whole = mask_of(things)
    if len(things) < 4 or any([len(things_in(web.masks[thing] & whole)) != 2 for thing in things]):
        return None
    row = row_round(web.masks, whole)
    # Otherwise the part consists of several rings.
    if len(row) < len(things):
        return None
    return row


def rings_from(web, first):
    """Return the rings of which this is the least thing, each as its row, a list."""
    masks = web.masks
    above = whole_mask(web.many) & ~whole_mask(first + 1)
    found = []
    # Each entry: a row in which just neighbours clash, and the things that clash with none of it but its ends.
    waiting = [((first, second), above & ~(1 << second)) for second in things_in(masks[first] & above)]
    while waiting:
        row, fitting = waiting.pop()
        for thing in things_in(fitting & masks[row[-1]]):
            longer = (*row, thing)
            if not (masks[first] >> thing) & 1:
                waiting.append((longer, fitting & ~masks[row[-1]]))
            elif row[1] < thing:
                found.append(longer)
    return found


def first_ring(web, odd_only):
    """Return the row of the least of the shortest rings of five or more things, None if there is none."""
    rows = [row for first in range(web.many) for row in rings_from(web, first)]
    told = [(len(row), tuple(sorted(row)), row) for row in rows
            if len(row) > 4 and (len(row) % 2 == 1 or not odd_only)]
    if not told:
        return None
    _, _, row = min(told)
    return row


def odd_ring(web):
    """Return the least of the shortest rings of an odd number of five or more things, None if there is none."""
    return first_ring(web, True)


def contrary_ring(web):
    """Return the least of the shortest rings of five or more things of the contrary, None if there is none."""
    return first_ring(~web, False)


def blocking_ring(web):
    """Return the pair of "ring" and an odd ring, or of "contrary" and a ring of the contrary; or None."""
    row = odd_ring(web)
    if row is not None:
        return ("ring", row)
    row = contrary_ring(web)
    if row is not None:
        return ("contrary", row)
    return None


def is_blocking(web, things):
    """Tell whether the things are an odd ring, or the contrary of a ring, of five or more things."""
    if len(things) < 5:
        return False
    if ring_row(web, things) is not None and len(things) % 2 == 1:
        return True
    return ring_row(~web, things) is not None


def ring_bad_row(order, part):
    """Return the least bad row of the order within the part, which must be blocking."""
    things = check_part(len(order), part)
    if not is_blocking(order.web, things):
        raise NoneSuch("ring")
    rows = [row for row in bad_rows(order) if all([thing in things for thing in row])]
    return rows[0]


def ring_orders(many):
    """Return the two right leads of the ring of an even number of things, ascending."""
    check_number(many, "many", 6)
    if many % 2 == 1:
        raise BadNumber("many")
    even = [(x, y) for x in range(0, many, 2) for y in ((x + 1) % many, (x - 1) % many)]
    odd = [(y, x) for x, y in even]
    return (tuple(sorted(even)), tuple(sorted(odd)))
