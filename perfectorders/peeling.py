"""Peeling an order from its two ends."""

from perfectorders.masks import mask_of
from perfectorders.taking import held_masks, row_masks


def peel_takes(order):
    """Return the tuples (thing, side) in the order in which peeling takes the things."""
    rows = row_masks(order.web)
    left = order.row
    takes = []
    while left:
        ends, middles = held_masks(rows, mask_of(left))
        if not (ends >> left[0]) & 1:
            takes.append((left[0], "front"))
            left = left[1:]
        elif not (middles >> left[-1]) & 1:
            takes.append((left[-1], "back"))
            left = left[:-1]
        else:
            return tuple(takes)
    return tuple(takes)


def peeled(order):
    """Return the pair of the first and the last place of the things that peeling leaves."""
    sides = [side for _, side in peel_takes(order)]
    return (sides.count("front"), len(order) - 1 - sides.count("back"))


def is_takes_order(order):
    """Tell whether peeling leaves nothing."""
    return len(peel_takes(order)) == len(order)
