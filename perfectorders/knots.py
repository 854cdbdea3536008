"""Knots and lots, full ones and heaviest ones."""

from perfectorders.amounts import check_needs, check_part, check_things, needy_things, weight
from perfectorders.errors import NotKnot, NotLot
from perfectorders.masks import full_masks, mask_of, things_in, whole_mask


def first_pair(web, things, clashing):
    """Return the least pair (x, y) of the ascending things that clashes, or that is a gap; or None."""
    for x in things:
        for y in things:
            if x < y and web.clash(x, y) == clashing:
                return (x, y)
    return None


def check_knot(web, things):
    """Check that the ascending things are a knot."""
    gap = first_pair(web, things, False)
    if gap is not None:
        x, y = gap
        raise NotKnot(x, y)


def check_lot(web, things):
    """Check that the ascending things are a lot."""
    clash = first_pair(web, things, True)
    if clash is not None:
        x, y = clash
        raise NotLot(x, y)


def is_knot(web, things):
    """Tell whether any two of the things clash."""
    return first_pair(web, check_things(web.many, things), False) is None


def is_lot(web, things):
    """Tell whether any two of the things are a gap."""
    return first_pair(web, check_things(web.many, things), True) is None


def knots_of(web, part=None):
    """Yield all knots within the part, ascending tuples, in ascending order."""
    # Each entry: a knot, and the greater things that clash with all things of it.
    waiting = [((), check_part(web.many, part))]
    while waiting:
        knot, fitting = waiting.pop()
        yield knot
        # The last entry is taken first, so the least knot must be put in last.
        for place in reversed(range(len(fitting))):
            thing = fitting[place]
            greater = tuple([other for other in fitting[place + 1:] if web.clash(thing, other)])
            waiting.append((knot + (thing,), greater))


def lots_of(web, part=None):
    """Yield all lots within the part, ascending tuples, in ascending order."""
    contrary = ~web
    yield from knots_of(contrary, part)


def full_knots(web, part=None):
    """Return the full knots of the part, an ascending tuple of ascending tuples."""
    things = check_part(web.many, part)
    return tuple(sorted([things_in(mask) for mask in full_masks(web.masks, mask_of(things))]))


def full_lots(web, part=None):
    """Return the full lots of the part, an ascending tuple of ascending tuples."""
    return full_knots(~web, part)


def heaviest(web, needs=None, holding=()):
    """Return the greatest weight of a knot that contains the things of `holding`; None if they are no knot."""
    told = check_needs(web.many, needs)
    held = check_things(web.many, holding)
    if not is_knot(web, held):
        return None
    fitting = whole_mask(web.many)
    for thing in held:
        fitting = fitting & web.masks[thing]
    return weight(told, held) + max([weight(told, things_in(mask)) for mask in full_masks(web.masks, fitting)])


def heaviest_knots(web, needs=None):
    """Return the heaviest ones of the full knots of the part of the needy things, ascending."""
    told = check_needs(web.many, needs)
    knots = full_knots(web, needy_things(told))
    most = max([weight(told, knot) for knot in knots])
    return tuple([knot for knot in knots if weight(told, knot) == most])


def heaviest_lots(web, needs=None):
    """Return the heaviest ones of the full lots of the part of the needy things, ascending."""
    return heaviest_knots(~web, needs)
