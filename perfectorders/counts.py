"""Numbers of leads and mixings, and orders of webs put in."""

from math import comb

from perfectorders.amounts import check_number
from perfectorders.errors import BadNumber
from perfectorders.joins import first_numbers, put_in
from perfectorders.quads import rows_of_four
from perfectorders.right import bad_rows


def line_right_leads(many):
    """Return the number of right leads of the line of so many things."""
    check_number(many, "many", 1)
    clashes = many - 1
    return (clashes // 2 + 1) * ((clashes + 1) // 2 + 1)


def mixings(sizes):
    """Return the number of mixings of rows of these lengths."""
    for size in sizes:
        check_number(size, "sizes")
    total = 1
    length = 0
    for size in sizes:
        length = length + size
        total = total * comb(length, size)
    return total


def sides_count(counts, sizes):
    """Return the product of all counts and of the number of mixings of rows of these lengths."""
    for count in counts:
        check_number(count, "counts")
    total = mixings(sizes)
    for count in counts:
        total = total * count
    return total


def are_both_led(order, b, c):
    """Tell whether unlike things other than b and c are ahead of b and of c and clash with them."""
    first = [a for a in order.ahead_of(b) if a != c]
    second = [d for d in order.ahead_of(c) if d != b]
    return any([a != d for a in first for d in second])


def both_led(order):
    """Return the least clash (b, c) that is led in on both sides by unlike things, None if there is none."""
    for b, c in order.web.clashes:
        if are_both_led(order, b, c):
            return (b, c)
    return None


def next_numbers(webs, numbers):
    """Return the next greater row with one thing of each web, None if there is none."""
    for v in reversed(range(len(numbers))):
        if numbers[v] + 1 < webs[v].many:
            return numbers[:v] + (numbers[v] + 1,) + (0,) * (len(numbers) - v - 1)
    return None


def representatives(webs):
    """Yield all tuples that hold one tuple (v, thing) for each web v that has things, ascending."""
    told = [v for v, web in enumerate(webs) if web.many > 0]
    kept = [webs[v] for v in told]
    numbers = (0,) * len(kept)
    while numbers is not None:
        yield tuple(zip(told, numbers))
        numbers = next_numbers(kept, numbers)


def inside_bad(webs, rows):
    """Return ("inside", v, row) for the first of the bad rows within the first web that has some, or None."""
    for v, first in enumerate(first_numbers(webs)):
        own = [tuple([thing - first for thing in row]) for row in rows]
        inside = [row for row in own if min(row) >= 0 and max(row) < webs[v].many]
        if inside:
            return ("inside", v, inside[0])
    return None


def across_bad(outer, webs, rows):
    """Return ("across", chosen, row): the first choice of one thing of each web with a bad row, and its outer row."""
    firsts = first_numbers(webs)
    for chosen in representatives(webs):
        number = {v: firsts[v] + thing for v, thing in chosen}
        for a, b, c, d in rows_of_four(outer):
            # The numbers of the things rise with those of their webs, so that a bad row is read from the same end.
            if tuple([number.get(v) for v in (a, b, c, d)]) in rows:
                return ("across", chosen, (a, b, c, d))
    return None


def put_in_bad(outer, webs, order):
    """Return where the order of the web put in has a bad row, None if it is right."""
    whole = put_in(outer, webs)
    if order.web != whole:
        raise BadNumber("order")
    rows = bad_rows(order)
    inside = inside_bad(webs, rows)
    if inside is not None or not rows:
        return inside
    return across_bad(outer, webs, rows)
