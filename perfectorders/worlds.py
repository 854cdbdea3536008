"""Heaviest weights, slack and critical things over all worlds of notes."""

from perfectorders.amounts import check_number, check_thing, weight, with_entry
from perfectorders.errors import NoneSuch
from perfectorders.knots import full_knots, heaviest
from perfectorders.notes import check_notes
from perfectorders.raises import need_line, slack


def room_ends_of(web, notes):
    """Return the pair of the heaviest weights at the lows and at the highs."""
    check_notes(web, notes)
    return (heaviest(web, notes.low), heaviest(web, notes.high))


def world_with(web, notes, goal):
    """Return the world with the heaviest weight `goal` that is reached by raising the least things first."""
    least, most = room_ends_of(web, notes)
    check_number(goal, "goal")
    if not least <= goal <= most:
        raise NoneSuch("goal")
    world = notes.low
    for thing, high in enumerate(notes.high):
        if heaviest(web, world) < goal:
            # With need t the heaviest weight is the greater of m, which is too little, and b + t.
            _, b = need_line(web, world, thing)
            world = with_entry(world, thing, min(high, goal - b))
    return world


def slack_at(knots, needs, thing):
    """Return the slack of the thing; `knots` are the full knots of the web."""
    weights = [weight(needs, knot) for knot in knots]
    holding = [total for total, knot in zip(weights, knots) if thing in knot]
    return max(weights) - max(holding)


def slack_worlds(web, notes, thing):
    """Return (world, knot) for the least and for the greatest slack of the thing over all worlds."""
    check_notes(web, notes)
    check_thing(web.many, thing)
    knots = full_knots(web)
    told = [(slack_at(knots, notes.high_on(knot), thing), knot) for knot in knots]
    _, lowest = min([(own, knot) for own, knot in told if thing in knot])
    greatest = max([own for own, _ in told])
    highest = min([knot for own, knot in told if own == greatest])
    return ((notes.high_on(lowest), lowest), (notes.high_on(highest), highest))


def slack_ends(web, notes, thing):
    """Return the pair of the least and the greatest slack of the thing over all worlds."""
    (first, _), (second, _) = slack_worlds(web, notes, thing)
    return (slack(web, first, thing), slack(web, second, thing))


def meeting_needs(web, free, thing, other, goal):
    """Return the needs of the other thing, a list, at which the slack of the thing may begin to be the goal.

    In `free` the need of the other thing is 0. With need t for it the slack is the greater of two
    numbers p and q + t, less the greater of two numbers r and s + t: where it changes it is
    q + t - r or p - (s + t). There is no s if the two things are a gap.
    """
    p = heaviest(web, free)
    q = heaviest(web, free, (other,))
    r = heaviest(web, free, (thing,))
    s = q
    if thing != other:
        s = heaviest(web, free, (thing, other))
    if s is None:
        return [goal + r - q]
    return [goal + r - q, p - s - goal]


def need_toward(web, world, thing, other, goal, last):
    """Return the first need of the other thing, from its own one to `last`, at which the thing has the slack `goal`.

    If there is none, `last` is returned.
    """
    own = world[other]
    for need in meeting_needs(web, with_entry(world, other, 0), thing, other, goal):
        between = min(own, last) <= need <= max(own, last)
        if between and slack(web, with_entry(world, other, need), thing) == goal:
            return need
    return last


def world_of_slack(web, notes, thing, goal):
    """Return the world in which the slack of the thing is `goal`, on the way from its least to its greatest."""
    (world, _), (final, _) = slack_worlds(web, notes, thing)
    check_number(goal, "goal")
    if not slack(web, world, thing) <= goal <= slack(web, final, thing):
        raise NoneSuch("goal")
    for other, last in enumerate(final):
        if slack(web, world, thing) != goal:
            world = with_entry(world, other, need_toward(web, world, thing, other, goal, last))
    return world


def can_be_critical(web, notes, thing):
    """Tell whether the thing is critical in some world."""
    least, _ = slack_ends(web, notes, thing)
    return least == 0


def must_be_critical(web, notes, thing):
    """Tell whether the thing is critical in every world."""
    _, greatest = slack_ends(web, notes, thing)
    return greatest == 0


def critical_paper(web, notes, thing):
    """Return the least full knot that holds the thing and is heaviest with its highs, None if there is none."""
    check_notes(web, notes)
    check_thing(web.many, thing)
    for knot in full_knots(web):
        world = notes.high_on(knot)
        if thing in knot and weight(world, knot) == heaviest(web, world):
            return knot
    return None
