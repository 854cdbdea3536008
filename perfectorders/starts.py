"""Books in which each thing takes rooms from its start on, and the starts that fit an order."""

from perfectorders.amounts import check_needs, check_number, meets, needs_off, needs_on, needy_things, weight
from perfectorders.books import Book, booked_runs
from perfectorders.climbs import things_that_join
from perfectorders.errors import BadNumber, NotRight
from perfectorders.knots import full_knots, heaviest
from perfectorders.quads import threes
from perfectorders.right import check_right, first_bad


def check_starts(many, starts):
    """Return the starts as a tuple."""
    if not isinstance(starts, (list, tuple)) or len(starts) != many:
        raise BadNumber("starts")
    for start in starts:
        check_number(start, "starts", 1)
    return tuple(starts)


class StartBook(Book):
    """The book of an order in which each thing takes its least free rooms from its start on."""

    def __init__(self, order, starts, needs=None):
        many = len(order)
        self.starts = check_starts(many, starts)
        told = check_needs(many, needs)
        self.keep(order, told, booked_runs(order, told, self.starts, ((),) * many))


def needs_above(starts, needs, level):
    """Return the needs of the things that start above the level, 0 for all others."""
    return needs_off(needs, [thing for thing, start in enumerate(starts) if start <= level])


def best_level(web, starts, needs):
    """Return the pair (floor, the least level that gives it); some thing must be needy."""
    # From one level to the next the same things start above it, until the start of a needy thing
    # is reached: only the levels just below a start can give the floor.
    levels = sorted(set([starts[thing] - 1 for thing in needy_things(needs)]))
    floors = [level + heaviest(web, needs_above(starts, needs, level)) for level in levels]
    greatest = max(floors)
    return (greatest, min([level for level, total in zip(levels, floors) if total == greatest]))


def floor(web, starts, needs=None):
    """Return the room that is reached however the things are given rooms from their starts on."""
    told_starts = check_starts(web.many, starts)
    told = check_needs(web.many, needs)
    if not needy_things(told):
        return 0
    greatest, _ = best_level(web, told_starts, told)
    return greatest


def floor_paper(web, starts, needs=None):
    """Return the pair (level, knot) that gives the floor, None if no thing is needy."""
    told_starts = check_starts(web.many, starts)
    told = check_needs(web.many, needs)
    if not needy_things(told):
        return None
    greatest, level = best_level(web, told_starts, told)
    above = needs_above(told_starts, told, level)
    knots = [knot for knot in full_knots(web, needy_things(above)) if weight(above, knot) == greatest - level]
    return (level, knots[0])


def led_threes(order):
    """Return the threes (b, c, d), read from either end, with d ahead of c, an ascending tuple."""
    found = []
    for x, m, y in threes(order.web):
        if order.ahead(y, m):
            found.append((x, m, y))
        if order.ahead(x, m):
            found.append((y, m, x))
    return tuple(sorted(found))


def bad_threes(order, starts):
    """Return the bad threes (b, c, d), an ascending tuple."""
    told = check_starts(len(order), starts)
    return tuple([(b, c, d) for b, c, d in led_threes(order) if told[b] > max(told[c], told[d])])


def starts_fit(order, starts):
    """Tell whether there is no bad row and no bad three."""
    return not bad_threes(order, starts) and first_bad(order) is None


def start_climb(book):
    """Return (level, knot): the knot holds all rooms above the level, and its things start above it."""
    check_right(book.order)
    bad = bad_threes(book.order, book.starts)
    if bad:
        raise NotRight(bad[0])
    if book.room_count == 0:
        return None
    knot = [book.lot_at(book.room_count)[0]]
    room = book.room_count
    for count, lot in book.spans[::-1]:
        if not meets(knot, lot):
            if min([book.starts[thing] for thing in knot]) > room:
                return (room, tuple(sorted(knot)))
            knot.append(things_that_join(book.order.web, knot, lot)[0])
        room = room - count
    return (0, tuple(sorted(knot)))


def needs_of_three(many, starts, three):
    """Return needs that are booked above the floor because of the bad three."""
    b, c, d = three
    needs = {b: 1, c: 1 + max(0, starts[d] - starts[c]), d: starts[b] - starts[d]}
    return tuple([needs.get(thing, 0) for thing in range(many)])


def starts_counter(order, starts):
    """Return needs that are booked above the floor, None if the starts fit."""
    many = len(order)
    told = check_starts(many, starts)
    bad = bad_threes(order, told)
    if bad:
        return needs_of_three(many, told, bad[0])
    row = first_bad(order)
    if row is None:
        return None
    latest = max([told[thing] for thing in row]) - 1
    return needs_on(many, row, 4 * latest + 1)
