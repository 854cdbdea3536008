"""Covers: knots that together hold each thing as often as it needs."""

from perfectorders.amounts import check_needs, lowered, meets, needs_off, needy_things
from perfectorders.knots import full_knots, heaviest, heaviest_lots
from perfectorders.right import check_right


def checked_needs(order, needs):
    """Return the needs for the order, which must be right, as a tuple."""
    told = check_needs(len(order), needs)
    check_right(order)
    return told


def heaviest_lot_weight(web, needs):
    """Return the weight of the heaviest lots."""
    return heaviest(~web, needs)


def knot_meeting_all(web, needs):
    """Return the least full knot of the needy things that meets all heaviest lots; some thing must be needy."""
    lots = heaviest_lots(web, needs)
    fitting = [knot for knot in full_knots(web, needy_things(needs))
               if all([meets(lot, knot) for lot in lots])]
    return fitting[0]


def cover(order, needs=None):
    """Return a cover of as many knots as the heaviest lot weighs, a tuple of pairs (count, knot)."""
    left = checked_needs(order, needs)
    web = order.web
    pairs = []
    while needy_things(left):
        knot = knot_meeting_all(web, left)
        # With each round the lots that meet the knot grow lighter, and the others do not:
        # the same knot serves until one of the others is as heavy.
        ahead = heaviest_lot_weight(web, left) - heaviest_lot_weight(web, needs_off(left, knot))
        count = min(ahead, min([left[thing] for thing in knot]))
        pairs.append((count, knot))
        left = lowered(left, knot, count)
    return tuple(pairs)


def cover_size(order, needs=None):
    """Return the weight of the heaviest lot."""
    return heaviest_lot_weight(order.web, checked_needs(order, needs))


def cover_lot(web, needs=None):
    """Return the least of the heaviest lots of needy things, an ascending tuple."""
    return heaviest_lots(web, needs)[0]


def meeting_knot(order, needs=None):
    """Return the least full knot of the needy things that meets all heaviest lots, () if no thing is needy."""
    told = checked_needs(order, needs)
    if needy_things(told):
        return knot_meeting_all(order.web, told)
    return ()
