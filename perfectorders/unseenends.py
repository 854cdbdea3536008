"""The least and the greatest rooms and slacks of unseen things over all worlds."""

from perfectorders.amounts import check_number, check_thing, weight, with_entry
from perfectorders.errors import NoneSuch
from perfectorders.knots import full_knots, heaviest
from perfectorders.maybes import world_of
from perfectorders.starts import floor, needs_above
from perfectorders.unseen import pairs_among
from perfectorders.webs import all_pairs


def lowest_rooms(unseen):
    """Return the floor in the lowest world at the low needs and the low starts."""
    return floor(unseen.maybe_web.lowest(), unseen.start_notes.low, unseen.notes.low)


def highest_rooms(unseen):
    """Return the floor in the highest world at the high needs and the high starts."""
    return floor(unseen.maybe_web.highest(), unseen.start_notes.high, unseen.notes.high)


def world_of_first(unseen, many):
    """Return the world in which just the first maybes clash, so many."""
    return world_of(unseen.maybe_web, unseen.maybe_web.maybe[:many])


def clashes_reaching(unseen, goal):
    """Return the least number of first maybes with which the floor reaches the goal at the lows; all if it does not."""
    least = 0
    most = len(unseen.maybe_web.maybe)
    while least < most:
        middle = (least + most) // 2
        if floor(world_of_first(unseen, middle), unseen.start_notes.low, unseen.notes.low) < goal:
            least = middle + 1
        else:
            most = middle
    return least


def start_reaching(web, starts, needs, thing, goal):
    """Return the least start of the thing with which the floor reaches the goal; with its own one it does not."""
    # A later start lets the thing lie in knots above the levels from its own start on, which weigh
    # the same from one start of another thing to the next.
    levels = sorted(set([max(start, starts[thing]) for start in starts]))
    for level, after in zip(levels, levels[1:]):
        late = with_entry(starts, thing, level + 1)
        reached = max(level, goal - heaviest(web, needs_above(late, needs, level), (thing,)))
        if reached < after:
            return reached + 1
    # Above the last one the thing is alone.
    return max(levels[-1], goal - needs[thing]) + 1


def need_reaching(web, starts, needs, thing, goal):
    """Return the least need of the thing with which the floor reaches the goal; with its own one it does not."""
    # With a need t of at least the goal the floor is t and a number that does not depend on t.
    more = floor(web, starts, with_entry(needs, thing, goal)) - goal
    return goal - more


def world_with_rooms(unseen, goal):
    """Return the tuple (web, needs, starts) with the floor `goal` that is reached first."""
    check_number(goal, "goal")
    if any([need != 1 for need in unseen.notes.low]):
        raise NoneSuch("lows")
    if not lowest_rooms(unseen) <= goal <= highest_rooms(unseen):
        raise NoneSuch("goal")
    web = world_of_first(unseen, clashes_reaching(unseen, goal))
    starts = unseen.start_notes.low
    needs = unseen.notes.low
    # The floor never falls and rises by at most 1 with each step, so it is told at which step of a
    # thing the goal is reached, without going step by step.
    for thing, high in enumerate(unseen.start_notes.high):
        if floor(web, starts, needs) < goal:
            starts = with_entry(starts, thing, min(high, start_reaching(web, starts, needs, thing, goal)))
    for thing, high in enumerate(unseen.notes.high):
        if floor(web, starts, needs) < goal:
            needs = with_entry(needs, thing, min(high, need_reaching(web, starts, needs, thing, goal)))
    return (web, needs, starts)


def world_on(unseen, things):
    """Return the pair of the web and the needs of the world in which the things are high, and all others low."""
    inside = [(x, y) for x, y in all_pairs(unseen.maybe_web.many) if x in things and y in things]
    web = world_of(unseen.maybe_web, pairs_among(unseen.maybe_web, inside))
    return (web, unseen.notes.high_on(things))


def least_slack(unseen, thing):
    """Return the least slack of the thing over all worlds and needs."""
    found = []
    for knot in full_knots(unseen.maybe_web.highest()):
        if thing in knot:
            web, needs = world_on(unseen, knot)
            found.append(heaviest(web, needs) - weight(needs, knot))
    return min(found)


def greatest_slack(unseen, thing):
    """Return the greatest slack of the thing over all worlds and needs."""
    others = [other for other in range(unseen.maybe_web.many) if other != thing]
    found = [0]
    for knot in full_knots(unseen.maybe_web.highest(), others):
        web, needs = world_on(unseen, knot)
        found.append(weight(needs, knot) - heaviest(web, needs, (thing,)))
    return max(found)


def slack_over(unseen, thing):
    """Return the pair of the least and the greatest slack of the thing over all worlds and needs."""
    check_thing(unseen.maybe_web.many, thing)
    if any([start != 1 for start in unseen.start_notes.high]):
        raise NoneSuch("starts")
    return (least_slack(unseen, thing), greatest_slack(unseen, thing))


def critical_in_some(unseen, thing):
    """Tell whether the thing is critical in some world."""
    least, _ = slack_over(unseen, thing)
    return least == 0


def critical_in_all(unseen, thing):
    """Tell whether the thing is critical in every world."""
    _, greatest = slack_over(unseen, thing)
    return greatest == 0
