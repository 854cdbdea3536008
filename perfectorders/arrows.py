"""Arrows from thing to thing, and rings of them.

Arrows are a tuple with, for each thing, the mask of the things to which an arrow leads from it.
"""

from perfectorders.amounts import with_entry
from perfectorders.masks import mask_of, things_in


def has_arrow(arrows, x, y):
    """Tell whether there is an arrow from x to y."""
    return (arrows[x] >> y) & 1 == 1


def with_arrow(arrows, x, y):
    """Return the arrows and the one from x to y."""
    return with_entry(arrows, x, arrows[x] | (1 << y))


def no_arrows(many):
    """Return no arrows, for so many things."""
    return (0,) * many


def steps_to(arrows, goal):
    """Return for each thing from which arrows lead to the goal the least number of them, at least 1, as a dict."""
    steps = {}
    reached = 1 << goal
    many = 0
    while reached:
        many = many + 1
        found = [thing for thing, mask in enumerate(arrows) if thing not in steps and mask & reached]
        for thing in found:
            steps[thing] = many
        reached = mask_of(found)
    return steps


def ring_from(arrows, first, steps):
    """Return the least of the shortest rings that begin with the thing; `steps` are those to it."""
    ring = [first]
    for left in reversed(range(1, steps[first])):
        ring.append(min([thing for thing in things_in(arrows[ring[-1]]) if steps.get(thing) == left]))
    return tuple(ring)


def least_ring(arrows):
    """Return the least of the shortest rings through the least thing that lies on a ring, None if there is no ring."""
    for thing in range(len(arrows)):
        steps = steps_to(arrows, thing)
        if thing in steps:
            return ring_from(arrows, thing, steps)
    return None


def is_ring(arrows, value):
    """Tell whether the value, a tuple of things, is a ring of the arrows."""
    if len(value) < 2:
        return False
    return all([has_arrow(arrows, x, y) for x, y in zip(value, [*value[1:], value[0]])])


def row_along(arrows):
    """Return the least row of all things in which each arrow leads to a thing behind, None if there is none."""
    row = []
    left = list(range(len(arrows)))
    while left:
        free = [thing for thing in left if not any([has_arrow(arrows, other, thing) for other in left])]
        if not free:
            return None
        row.append(free[0])
        left.remove(free[0])
    return tuple(row)
