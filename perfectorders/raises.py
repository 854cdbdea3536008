"""Raises: what further needs cost, told by the heaviest knots alone."""

from perfectorders.amounts import check_needs, check_number, check_thing, check_two_things
from perfectorders.amounts import needs_on, needy_things, with_entry
from perfectorders.errors import NoneSuch
from perfectorders.knots import heaviest
from perfectorders.masks import things_in, whole_mask
from perfectorders.together import sum_needs


def raised(needs, raises):
    """Return the needs with the raises added, a tuple."""
    return sum_needs(needs, raises)


def raised_heaviest(web, needs, raises):
    """Return the heaviest weight with the raises added."""
    told = check_needs(web.many, needs)
    return heaviest(web, raised(told, check_needs(web.many, raises)))


def need_line(web, needs, thing):
    """Return (m, b): with need t for the thing the heaviest weight is the greater of m and b + t."""
    told = check_needs(web.many, needs)
    check_thing(web.many, thing)
    free = with_entry(told, thing, 0)
    return (heaviest(web, free), heaviest(web, free, (thing,)))


def slack(web, needs, thing):
    """Return by how much the need of the thing may grow at no cost."""
    told = check_needs(web.many, needs)
    check_thing(web.many, thing)
    return heaviest(web, told) - heaviest(web, told, (thing,))


def room_of_pair(web, needs, x, y):
    """Return the pair room of two things, None if they are a gap; nothing is checked."""
    if not web.clash(x, y):
        return None
    return heaviest(web, needs) - heaviest(web, needs, (x, y))


def pair_room(web, needs, x, y):
    """Return the pair room of x and y, None if they are a gap."""
    told = check_needs(web.many, needs)
    check_two_things(web.many, x, y)
    return room_of_pair(web, told, x, y)


def free_together(web, needs, x, y, s, t):
    """Tell whether raises s of x and t of y together cost 0."""
    told = check_needs(web.many, needs)
    check_two_things(web.many, x, y)
    check_number(s, "s")
    check_number(t, "t")
    if s > slack(web, told, x) or t > slack(web, told, y):
        return False
    both = room_of_pair(web, told, x, y)
    return both is None or s + t <= both


def cost(web, needs, raises):
    """Return the cost of the raises."""
    told = check_needs(web.many, needs)
    return raised_heaviest(web, told, raises) - heaviest(web, told)


def lot_cost(web, needs, raises):
    """Return the greatest cost of the raise of one raised thing alone, 0 if no thing is raised."""
    told = check_needs(web.many, needs)
    more = check_needs(web.many, raises)
    costs = [more[thing] - slack(web, told, thing) for thing in needy_things(more)]
    return max(0, max(costs, default=0))


def ways_on(web, way, fitting, goal):
    """Return for each next thing of a contrary way to the goal the pair (the way with it, the things for later).

    `fitting` is the mask of the things that clash with all things of the way but the last one.
    """
    last = way[-1]
    gaps = fitting & ~web.masks[last] & ~(1 << last)
    # Next to a thing that is a gap with the goal only the goal may follow.
    if (gaps >> goal) & 1:
        gaps = 1 << goal
    return [((*way, thing), fitting & web.masks[last]) for thing in things_in(gaps)]


def contrary_ways(web, x, y):
    """Return all contrary ways from x to y, shorter ones first, those of one length ascending."""
    check_two_things(web.many, x, y)
    if not web.clash(x, y):
        raise NoneSuch("clash")
    found = []
    waiting = [((x,), whole_mask(web.many))]
    while waiting:
        way, fitting = waiting.pop()
        if way[-1] == y:
            found.append((len(way), way))
        else:
            waiting.extend(ways_on(web, way, fitting, y))
    return tuple([way for _, way in sorted(found)])


def even_way(web, x, y):
    """Return the first contrary way from x to y with an even number of steps, None if there is none."""
    check_two_things(web.many, x, y)
    if not web.clash(x, y):
        return None
    for way in contrary_ways(web, x, y):
        if len(way) % 2 == 1:
            return way
    return None


def dearer_needs(web, x, y):
    """Return needs at which raises of 1 of x and y cost more together than apart, None if there are none."""
    way = even_way(web, x, y)
    if way is None:
        return None
    return needs_on(web.many, way[1:-1])


def dearer_now(web, needs, x, y):
    """Tell whether some raises of x and y cost more together than apart at these needs."""
    told = check_needs(web.many, needs)
    check_two_things(web.many, x, y)
    if not web.clash(x, y):
        return False
    together = heaviest(web, told, (x, y)) + heaviest(web, told)
    return together > heaviest(web, told, (x,)) + heaviest(web, told, (y,))
