"""What rows of four ask of a new thing that comes in among others: behind and ahead of which it must stand.

A floor and a roof are pairs (other thing, row): the new thing must stand behind the thing of a floor and ahead of
that of a roof. The row is read so that the new thing is first if it is an end of it, and second if it is a middle.
"""

from perfectorders.quads import ends_of, middles_of


def end_asks(row, places):
    """Return what the row (new thing, b, c, d) asks, a list of tuples (letter, is it a floor, other thing)."""
    _, b, c, d = row
    asks = [("F", True, b) if places[d] < places[c] else ("T", False, b)]
    asks.append(("C", False, c) if places[b] < places[d] else ("D", True, c))
    return asks


def middle_asks(row, places):
    """Return what the row (a, new thing, c, d) asks, a list of tuples (letter, is it a floor, other thing)."""
    a, _, c, d = row
    asks = [("F", False, a) if places[d] < places[c] else ("T", True, a)]
    asks.append(("C", True, d) if places[c] < places[a] else ("D", False, d))
    return asks


def asks_of(web, others, thing):
    """Return what the rows of four among the thing and the others ask of it, a list of tuples.

    Each is (letter, is it a floor, other thing, row). `others` is a row of things of the web, not always of all.
    """
    places = {other: place for place, other in enumerate(others)}
    part = [*others, thing]
    asks = [(*ask, row) for row in ends_of(web, thing, part) for ask in end_asks(row, places)]
    asks.extend([(*ask, row) for row in middles_of(web, thing, part) for ask in middle_asks(row, places)])
    return asks


def floors_and_roofs(web, others, thing, letters):
    """Return the pair of the floors and the roofs of the thing for these letters, both ascending tuples."""
    asks = [ask for ask in asks_of(web, others, thing) if ask[0] in letters]
    floors = sorted([(other, row) for _, is_floor, other, row in asks if is_floor])
    roofs = sorted([(other, row) for _, is_floor, other, row in asks if not is_floor])
    return (tuple(floors), tuple(roofs))


def first_place(others, floors):
    """Return the first place behind all floors."""
    return max([others.index(other) + 1 for other, _ in floors], default=0)


def last_place(others, roofs):
    """Return the last place ahead of all roofs."""
    return min([others.index(other) for other, _ in roofs], default=len(others))


def forbidding_rows(others, floors, roofs):
    """Return the pair of the least row of the last floor and the least row of the first roof; there must be both."""
    last = others[first_place(others, floors) - 1]
    first = others[last_place(others, roofs)]
    return (min([row for other, row in floors if other == last]), min([row for other, row in roofs if other == first]))
