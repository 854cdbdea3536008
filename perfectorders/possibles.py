"""Rows of four and threes that are possible in some world of a maybe web, and led in by some order.

Which things may be ahead of which is told by masks: for each thing the mask of those that can be ahead of it.
"""

from perfectorders.masks import things_in, whole_mask


def any_ahead(many):
    """Return the masks by which each thing can be ahead of each other one."""
    return [whole_mask(many)] * many


def row_ahead(row):
    """Return the masks by which each thing is ahead of those behind it in the row of all things."""
    masks = [0] * len(row)
    ahead = 0
    for thing in row:
        masks[thing] = ahead
        ahead = ahead | (1 << thing)
    return masks


def led_rows(maybe_web, ahead):
    """Return the possible rows (a, b, c, d), a < d, such that a can be ahead of b, and d of c; ascending."""
    clash = maybe_web.clash_masks
    gap = maybe_web.gap_masks
    found = []
    for b in range(maybe_web.many):
        for c in things_in(clash[b]):
            second = clash[c] & gap[b] & ahead[c]
            for a in things_in(clash[b] & gap[c] & ahead[b]):
                found.extend([(a, b, c, d) for d in things_in(second & gap[a]) if a < d])
    return tuple(sorted(found))


def late_threes(maybe_web, ahead, low, high):
    """Return the possible threes (b, c, d) such that d can be ahead of c, and b can start above both; ascending.

    `low` and `high` have the least and the greatest start of each thing.
    """
    clash = maybe_web.clash_masks
    gap = maybe_web.gap_masks
    found = []
    for c in range(maybe_web.many):
        for d in things_in(clash[c] & ahead[c]):
            later = [b for b in things_in(clash[c] & gap[d]) if high[b] > max(low[c], low[d])]
            found.extend([(b, c, d) for b in later])
    return tuple(sorted(found))


def row_against(maybe_web, row, starts):
    """Return the least possible row, or else the least possible three, that keeps the row from being safe, or None."""
    ahead = row_ahead(row)
    found = led_rows(maybe_web, ahead) + late_threes(maybe_web, ahead, starts, starts)
    if found:
        return found[0]
    return None
