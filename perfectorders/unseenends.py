"""The least and the greatest rooms and slacks of unseen things over all worlds."""

from perfectorders.amounts import check_number, check_thing, weight
from perfectorders.errors import NoneSuch
from perfectorders.knots import full_knots, heaviest
from perfectorders.maybes import world_of
from perfectorders.starts import floor
from perfectorders.unseen import pairs_among
from perfectorders.webs import all_pairs


def lowest_rooms(unseen):
    """Return the floor in the lowest world at the low needs and the low starts."""
    return floor(unseen.maybe_web.lowest(), unseen.start_notes.low, unseen.notes.low)


def highest_rooms(unseen):
    """Return the floor in the highest world at the high needs and the high starts."""
    return floor(unseen.maybe_web.highest(), unseen.start_notes.high, unseen.notes.high)


def steps_of(notes):
    """Return how many raises by 1 lead from the lows to the highs."""
    return sum(notes.high) - sum(notes.low)


def raised_by(notes, steps):
    """Return the world that is reached from the lows by so many raises by 1, those of the least thing first."""
    left = steps
    world = []
    for low, high in zip(notes.low, notes.high):
        world.append(min(high, low + left))
        left = left - (world[-1] - low)
    return tuple(world)


def world_after(unseen, steps):
    """Return the tuple (web, needs, starts) that so many steps lead to.

    First the maybes come to clash, the least one first, then starts are raised, then needs.
    """
    pairs = unseen.maybe_web.maybe[:steps]
    later = steps - len(pairs)
    starts = raised_by(unseen.start_notes, later)
    later = later - (sum(starts) - sum(unseen.start_notes.low))
    return (world_of(unseen.maybe_web, pairs), raised_by(unseen.notes, later), starts)


def floor_after(unseen, steps):
    """Return the floor that so many steps lead to."""
    web, needs, starts = world_after(unseen, steps)
    return floor(web, starts, needs)


def world_with_rooms(unseen, goal):
    """Return the tuple (web, needs, starts) with the floor `goal` that is reached first."""
    check_number(goal, "goal")
    if any([need != 1 for need in unseen.notes.low]):
        raise NoneSuch("lows")
    if not lowest_rooms(unseen) <= goal <= highest_rooms(unseen):
        raise NoneSuch("goal")
    # The floor never falls and rises by at most 1 with each step, so the first step that reaches
    # the goal is found by halving, and not step by step.
    least = 0
    most = len(unseen.maybe_web.maybe) + steps_of(unseen.start_notes) + steps_of(unseen.notes)
    while least < most:
        middle = (least + most) // 2
        if floor_after(unseen, middle) < goal:
            least = middle + 1
        else:
            most = middle
    return world_after(unseen, least)


def world_on(unseen, things):
    """Return the pair of the web and the needs of the world in which the things are high, and all others low."""
    inside = [(x, y) for x, y in all_pairs(unseen.maybe_web.many) if x in things and y in things]
    web = world_of(unseen.maybe_web, pairs_among(unseen.maybe_web, inside))
    return (web, unseen.notes.high_on(things))


def least_slack(unseen, thing):
    """Return the least slack of the thing over all worlds and needs."""
    found = []
    for knot in full_knots(unseen.maybe_web.highest()):
        if thing in knot:
            web, needs = world_on(unseen, knot)
            found.append(heaviest(web, needs) - weight(needs, knot))
    return min(found)


def greatest_slack(unseen, thing):
    """Return the greatest slack of the thing over all worlds and needs."""
    others = [other for other in range(unseen.maybe_web.many) if other != thing]
    found = [0]
    for knot in full_knots(unseen.maybe_web.highest(), others):
        web, needs = world_on(unseen, knot)
        found.append(weight(needs, knot) - heaviest(web, needs, (thing,)))
    return max(found)


def slack_over(unseen, thing):
    """Return the pair of the least and the greatest slack of the thing over all worlds and needs."""
    check_thing(unseen.maybe_web.many, thing)
    if any([start != 1 for start in unseen.start_notes.high]):
        raise NoneSuch("starts")
    return (least_slack(unseen, thing), greatest_slack(unseen, thing))


def critical_in_some(unseen, thing):
    """Tell whether the thing is critical in some world."""
    least, _ = slack_over(unseen, thing)
    return least == 0


def critical_in_all(unseen, thing):
    """Tell whether the thing is critical in every world."""
    _, greatest = slack_over(unseen, thing)
    return greatest == 0
