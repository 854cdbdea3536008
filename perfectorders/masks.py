"""Sets of things as masks: integers in which bit x tells whether thing x is in the set.

Going through all knots of a web costs far less with masks than with tuples.
"""


def whole_mask(many):
    """Return the mask of the things 0 to many - 1."""
    return (1 << many) - 1


def mask_of(things):
    """Return the mask of the things."""
    mask = 0
    for thing in things:
        mask = mask | (1 << thing)
    return mask


def things_in(mask):
    """Return the things of the mask, an ascending tuple."""
    return tuple([thing for thing in range(mask.bit_length()) if (mask >> thing) & 1])


def least_in(mask):
    """Return the least thing of a mask that is not empty."""
    return (mask & -mask).bit_length() - 1


def near_masks(many, clashes):
    """Return for each thing the mask of the things near it, a tuple."""
    masks = [0] * many
    for x, y in clashes:
        masks[x] = masks[x] | (1 << y)
        masks[y] = masks[y] | (1 << x)
    return tuple(masks)


def full_masks(masks, part):
    """Return the masks of the full knots of the part, a list in no stated order.

    `masks` are the near masks of the web; with those of the contrary web the full lots are found.
    """
    found = []
    # Each entry: a knot, the things by which it may grow, and those by which it may grow
    # but whose knots are found from another entry.
    waiting = [(0, part, 0)]
    while waiting:
        knot, fitting, done = waiting.pop()
        if fitting | done == 0:
            found.append(knot)
            continue
        # A full knot that lacks this thing has a thing that does not clash with it,
        # so the knots that grow by things near it need no entry of their own.
        pivot = least_in(fitting | done)
        growing = things_in(fitting & ~masks[pivot])
        for thing in growing:
            bit = 1 << thing
            waiting.append((knot | bit, fitting & masks[thing], done & masks[thing]))
            fitting = fitting & ~bit
            done = done | bit
    return found
