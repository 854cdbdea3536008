"""Sets of things as masks: integers in which bit x tells whether thing x is in the set.

Going through all knots of a web costs far less with masks than with tuples.
"""


def whole_mask(many):
    """Return the mask of the things 0 to many - 1."""
    return (1 << many) - 1


def mask_of(things):
    """Return the mask of the things."""
    mask = 0
    for thing in things:
        mask = mask | (1 << thing)
    return mask


def things_in(mask):
    """Return the things of the mask, an ascending tuple."""
    return tuple([thing for thing in range(mask.bit_length()) if (mask >> thing) & 1])


def least_in(mask):
    """Return the least thing of a mask that is not empty."""
    return (mask & -mask).bit_length() - 1


def near_masks(many, clashes):
    """Return for each thing the mask of the things near it, a tuple."""
    masks = [0] * many
    for x, y in clashes:
        masks[x] = masks[x] | (1 << y)
        masks[y] = masks[y] | (1 << x)
    return tuple(masks)


def piece_of(masks, part, thing):
    """Return the mask of the piece of the part that holds the thing; `masks` are the near masks of the web."""
    piece = 1 << thing
    edge = piece
    while edge:
        near = 0
        for x in things_in(edge):
            near = near | masks[x]
        edge = near & part & ~piece
        piece = piece | edge
    return piece


def piece_masks(masks, part):
    """Return the masks of the pieces of the part, by their least things, a list."""
    found = []
    left = part
    while left:
        piece = piece_of(masks, left, least_in(left))
        found.append(piece)
        left = left & ~piece
    return found


def full_masks(masks, part):
    """Return the masks of the full knots of the part, a list in no stated order.

    `masks` are the near masks of the web; with those of the contrary web the full lots are found.
    """
    found = []
    # Each entry: a knot, the things by which it may grow, and those by which it may grow
    # but whose knots are found from another entry.
    waiting = [(0, part, 0)]
    while waiting:
        knot, fitting, done = waiting.pop()
        if fitting | done == 0:
            found.append(knot)
            continue
        # A full knot that lacks this thing has a thing that does not clash with it,
        # so the knots that grow by things near it need no entry of their own.
        pivot = least_in(fitting | done)
        growing = things_in(fitting & ~masks[pivot])
        for thing in growing:
            bit = 1 << thing
            waiting.append((knot | bit, fitting & masks[thing], done & masks[thing]))
            fitting = fitting & ~bit
            done = done | bit
    return found


def lots_within(masks, part):
    """Return the masks of all lots of the part, the empty one first, a list; `masks` are the near masks of the web."""
    found = [0]
    for thing in things_in(part):
        found.extend([lot | (1 << thing) for lot in list(found) if lot & masks[thing] == 0])
    return found


def least_meeting(many, masks):
    """Return the sets with the fewest of the numbers 0 to many - 1 that meet each of the masks, ascending."""
    found = [things_in(chosen) for chosen in range(1 << many) if all([chosen & mask for mask in masks])]
    fewest = min([len(chosen) for chosen in found], default=0)
    return tuple(sorted([chosen for chosen in found if len(chosen) == fewest]))
