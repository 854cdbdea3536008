"""Orders that all starts fit, and the starts of one thing."""

from perfectorders.amounts import check_part, check_thing, check_things
from perfectorders.errors import NoOrder
from perfectorders.masks import mask_of, piece_masks, piece_of, things_in, whole_mask
from perfectorders.orders import Order
from perfectorders.quads import rows_of_four
from perfectorders.starts import check_starts, led_threes


def early_end(order):
    """Return the three (x, m, y) with y ahead of m that has the least m, then y, then x; None if there is none."""
    found = sorted([(m, y, x) for x, m, y in led_threes(order)])
    if not found:
        return None
    m, y, x = found[0]
    return (x, m, y)


def starts_for(web, three):
    """Return the starts 2 for the first thing of the three and 1 elsewhere, a tuple."""
    check_things(web.many, three)
    return tuple([2 if thing == three[0] else 1 for thing in range(web.many)])


def spanning_thing(masks, part):
    """Return the least thing of the part that clashes with all others of its piece, None if there is none."""
    for thing in things_in(part):
        near = masks[thing] & part
        if piece_of(masks, part, thing) == near | (1 << thing):
            return thing
    return None


def all_starts_order(web):
    """Return an Order that all starts fit."""
    left = whole_mask(web.many)
    row = []
    while left:
        thing = spanning_thing(web.masks, left)
        if thing is None:
            raise NoOrder()
        row.append(thing)
        left = left & ~(1 << thing)
    return Order(web, row)


def rings_of_four(web):
    """Return all rings of four (a, b, c, d) with a the least thing and b < d, an ascending tuple."""
    masks = web.masks
    found = []
    for a in range(web.many):
        for c in range(a + 1, web.many):
            # The things above a that clash with both a and c.
            both = [thing for thing in things_in(masks[a] & masks[c]) if thing > a]
            if not web.clash(a, c):
                found.extend([(a, b, c, d) for b in both for d in both if b < d and not web.clash(b, d)])
    return tuple(sorted(found))


def barring_four(web):
    """Return the least row of four, or else the least ring of four; None if there is neither."""
    found = rows_of_four(web) + rings_of_four(web)
    if found:
        return found[0]
    return None


def pieces(web, part=None):
    """Return the pieces of the part, an ascending tuple of ascending tuples."""
    whole = mask_of(check_part(web.many, part))
    return tuple([things_in(piece) for piece in piece_masks(web.masks, whole)])


def start_run(order, starts, thing):
    """Return the pair of the least and the greatest start that no bad three with the thing forbids.

    The second is None if there is no greatest one; it is below the first one if no start will do.
    """
    told = check_starts(len(order), starts)
    check_thing(len(order), thing)
    least = 1
    ends = []
    for b, c, d in led_threes(order):
        if thing == b:
            ends.append(max(told[c], told[d]))
        if (thing == c and told[b] > told[d]) or (thing == d and told[b] > told[c]):
            least = max(least, told[b])
    return (least, min(ends, default=None))
