"""The numbers of leads of orders, of all or of right ones, counted without going through them.

The things with no clashing thing ahead of them are a lot, which is not empty. So the leads are counted by the
lots all of whose things are laid first: adding the numbers for lots of an odd number of things, and taking off
those for lots of an even one, counts each lead once.
"""

from perfectorders.masks import lots_within, mask_of, piece_masks, things_in


def both_ways(rows):
    """Return the rows of four, each with the mask of its things, read from either end; a list."""
    return [(mask_of(row), told) for row in rows for told in (row, row[::-1])]


def asked_behind(rows, ahead, lot, rest):
    """Return what must be ahead of each thing of the rest when the lot is laid ahead of it, None if a row is bad.

    `rows` are those within both; `ahead` has for each thing the mask of the things that must be ahead of it.
    """
    found = list(ahead)
    for a, _, c, d in rows:
        # As a is ahead of b, c must be ahead of d; if c is in the lot, it is.
        if (lot >> a) & 1:
            if (lot >> d) & 1:
                return None
            found[d] = found[d] | (1 << c)
    return tuple([mask & rest for mask in found])


def sign_of(lot):
    """Return 1 for a lot of an odd number of things, -1 for one of an even number."""
    return 1 if len(things_in(lot)) % 2 == 1 else -1


def count_piece(masks, rows, piece, ahead, known):
    """Return the number of leads of a part that hangs together; arguments as in `count_leads`."""
    inside = [(mask, row) for mask, row in rows if mask & ~piece == 0]
    told = [row for _, row in inside]
    free = mask_of([thing for thing in things_in(piece) if ahead[thing] == 0])
    total = 0
    for lot in lots_within(masks, free)[1:]:
        left = asked_behind(told, ahead, lot, piece & ~lot)
        if left is not None:
            total = total + sign_of(lot) * count_leads(masks, inside, piece & ~lot, left, known)
    return total


def count_leads(masks, rows, part, ahead, known):
    """Return the number of leads of the part in which none of the rows is bad, and what must be ahead is.

    `rows` is made by `both_ways`; `ahead` has for each thing the mask of the things that must be ahead of it.
    `known` keeps the numbers: many ways lead to the same part.
    """
    total = 1
    for piece in piece_masks(masks, part):
        own = tuple([mask if (piece >> thing) & 1 else 0 for thing, mask in enumerate(ahead)])
        if (piece, own) not in known:
            known[(piece, own)] = count_piece(masks, rows, piece, own, known)
        total = total * known[(piece, own)]
    return total
