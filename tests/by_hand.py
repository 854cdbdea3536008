"""What the tests share: exact comparisons, and answers worked out straight from the document's words."""

import unittest
from functools import lru_cache
from itertools import combinations, permutations, product

from perfectorders.orders import Order
from perfectorders.webs import Web


def exact(value):
    """The value with the kinds of all its parts, so that 1 and True, tuples and lists are unlike."""
    if isinstance(value, tuple):
        return ("tuple", [exact(part) for part in value])
    if isinstance(value, list):
        return ("list", [exact(part) for part in value])
    if isinstance(value, Web):
        return ("Web", value.many, value.clashes)
    if isinstance(value, Order):
        return ("Order", exact(value.web), exact(value.row))
    return (type(value).__name__, value)


class Case(unittest.TestCase):
    """A test case that compares values with their kinds, and errors with their attributes."""

    def same(self, got, expected, note=None):
        self.assertEqual(exact(got), exact(expected), note)

    def raises(self, expected, call, *rest, **more):
        """The call raises an error of just the class of the expected one, with the same attributes."""
        with self.assertRaises(Exception) as caught:
            call(*rest, **more)
        error = caught.exception
        self.assertIs(type(error), type(expected), repr(error))
        got = {name: exact(value) for name, value in vars(error).items()}
        self.assertEqual(got, {name: exact(value) for name, value in vars(expected).items()})
        return error


def sides(x, y):
    return (min(x, y), max(x, y))


def pairs_of(things):
    return list(combinations(sorted(things), 2))


def all_webs(most, least=0):
    """All webs of `least` to `most` things."""
    for many in range(least, most + 1):
        pairs = pairs_of(range(many))
        for picked in product((False, True), repeat=len(pairs)):
            yield Web(many, [pair for pair, taken in zip(pairs, picked) if taken])


def some_webs(step, many=5):
    """Each step-th web of so many things."""
    return list(all_webs(many, many))[::step]


def clash(web, x, y):
    return sides(x, y) in set(web.clashes)


def near(web, x):
    return tuple(y for y in range(web.many) if clash(web, x, y))


def subsets(things):
    """All subsets as ascending tuples."""
    things = sorted(things)
    return [picked for size in range(len(things) + 1) for picked in combinations(things, size)]


def is_knot(web, things):
    return set(pairs_of(things)) <= set(web.clashes)


def is_lot(web, things):
    return not set(pairs_of(things)) & set(web.clashes)


def sets_of(web, part, good):
    """All subsets of the part that are good (knots or lots), ascending."""
    return list(kept_sets(web.many, web.clashes, tuple(part), good))


@lru_cache(maxsize=None)
def kept_sets(many, clashes, part, good):
    return sorted(picked for picked in subsets(part) if good(Web(many, clashes), picked))


def full_sets(web, part, good):
    """Those that no greater one contains."""
    found = sets_of(web, part, good)
    return tuple(one for one in found if not any(set(one) < set(other) for other in found))


def weight_of(needs, things):
    return sum(needs[thing] for thing in things)


def heaviest_weight(web, needs, holding=()):
    weights = [weight_of(needs, knot) for knot in sets_of(web, range(web.many), is_knot)
               if set(holding) <= set(knot)]
    return max(weights) if weights else None


def rows_by_hand(web):
    """All rows of four with a < d, by going through all rows of four unlike things."""
    return kept_rows(web.many, web.clashes)


@lru_cache(maxsize=None)
def kept_rows(many, clashes):
    edges = set(clashes)

    def fits(a, b, c, d):
        return (sides(a, b) in edges and sides(b, c) in edges and sides(c, d) in edges
                and sides(a, c) not in edges and sides(b, d) not in edges and sides(a, d) not in edges)

    return tuple(row for row in permutations(range(many), 4) if row[0] < row[3] and fits(*row))


def all_orders(web):
    return [Order(web, row) for row in permutations(range(web.many))]


def all_needs(many, most=2):
    return list(product(range(most + 1), repeat=many))


def rooms_by_hand(web, row, needs):
    """For each thing the rooms that it takes, room after room."""
    held = {}
    for thing in row:
        rooms = []
        room = 1
        while len(rooms) < needs[thing]:
            if not any(clash(web, thing, other) and room in held[other] for other in held):
                rooms.append(room)
            room += 1
        held[thing] = rooms
    return held


def spans_of_rooms(held):
    """The spans of the rooms that each thing holds, room after room, also where nothing holds one."""
    count = max([max(rooms, default=0) for rooms in held.values()], default=0)
    spans = []
    for room in range(1, count + 1):
        lot = tuple(sorted(thing for thing in held if room in held[thing]))
        if spans and spans[-1][1] == lot:
            spans[-1] = (spans[-1][0] + 1, lot)
        else:
            spans.append((1, lot))
    return tuple(spans)


def spans_by_hand(web, row, needs):
    return spans_of_rooms(rooms_by_hand(web, row, needs))


def count_by_hand(web, row, needs):
    return sum(count for count, lot in spans_by_hand(web, row, needs))


def first_lot_by_hand(web, row, part):
    lot = []
    for thing in row:
        if thing in part and not any(clash(web, thing, other) for other in lot):
            lot.append(thing)
    return tuple(sorted(lot))


def bad_by_hand(web, row):
    place = {thing: at for at, thing in enumerate(row)}
    return tuple((a, b, c, d) for a, b, c, d in rows_by_hand(web)
                 if place[a] < place[b] and place[d] < place[c])


def right_orders_of(web, step=1):
    """Each step-th of the right orders of the web."""
    return [order for order in all_orders(web) if not bad_by_hand(web, order.row)][::step]


def wrong_orders_of(web, step=1):
    """Each step-th of the orders of the web that are not right."""
    return [order for order in all_orders(web) if bad_by_hand(web, order.row)][::step]


def heaviest_lot_weight(web, needs):
    return max(weight_of(needs, lot) for lot in sets_of(web, range(web.many), is_lot))


def needy(needs):
    return tuple(thing for thing, need in enumerate(needs) if need > 0)


def added(needs, more):
    return tuple(one + two for one, two in zip(needs, more))


def at(needs, thing, need):
    """The needs with another need for the thing."""
    return tuple(need if other == thing else old for other, old in enumerate(needs))


def threes_by_hand(web):
    """All threes (x, m, y), read from either end, by going through all triples."""
    return list(kept_threes(web.many, web.clashes))


@lru_cache(maxsize=None)
def kept_threes(many, clashes):
    web = Web(many, clashes)
    return [(x, m, y) for x, m, y in permutations(range(many), 3)
            if clash(web, x, m) and clash(web, m, y) and not clash(web, x, y)]


def rooms_held(book_by_thing, things):
    return {room for thing in things for room in book_by_thing[thing]}


def ones_on(many, things):
    return tuple(1 if thing in things else 0 for thing in range(many))


def settled_by_hand(web):
    """All settled bookings, by going through all rows of rooms."""
    found = []
    for rooms in product(range(1, web.many + 1), repeat=web.many):
        proper = all(rooms[x] != rooms[y] for x, y in web.clashes)
        if proper and all(any(rooms[y] == room for y in near(web, x))
                          for x in range(web.many) for room in range(1, rooms[x])):
            found.append(rooms)
    return found


def part_web(web, things):
    """The part as a web of its own."""
    things = sorted(things)
    number = {thing: at for at, thing in enumerate(things)}
    return Web(len(things), [(number[x], number[y]) for x, y in web.clashes if x in number and y in number])


def held_from(web, row, starts, needs):
    """For each thing its rooms from its start on, room after room."""
    held = {}
    for thing in row:
        rooms = []
        room = starts[thing]
        while len(rooms) < needs[thing]:
            if not any(room in held.get(other, ()) for other in near(web, thing)):
                rooms.append(room)
            room += 1
        held[thing] = rooms
    return held


def bad_threes_by_hand(order, starts):
    place = {thing: at for at, thing in enumerate(order.row)}
    return tuple(sorted((b, c, d) for b, c, d in threes_by_hand(order.web)
                        if place[d] < place[c] and starts[b] > starts[c] and starts[b] > starts[d]))


def level_weights(web, starts, needs):
    """K_j for each level j, by going through all knots."""
    most = max(starts[thing] for thing in needy(needs))
    return [max(weight_of(needs, knot) for knot in
                sets_of(web, [x for x in needy(needs) if starts[x] > level], is_knot))
            for level in range(most)]


def floor_by_hand(web, starts, needs):
    if not any(needs):
        return 0
    return max(level + heavy for level, heavy in enumerate(level_weights(web, starts, needs)))


# Things, places and numbers that are none: no integers, or the wrong ones.
NO_INTEGERS = (True, False, None, "1", 1.0, (1,), [1])
