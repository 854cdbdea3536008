"""Two bounds of the number of rooms of a book."""

from perfectorders.amounts import check_needs, weight


def way_weights(order, needs):
    """Return for each thing the greatest weight of a led way of needy things that begins with it, 0 for none."""
    weights = [0] * len(order)
    for thing in order.row[::-1]:
        if needs[thing] > 0:
            behind = [weights[other] for other in order.web.near(thing) if order.ahead(thing, other)]
            weights[thing] = needs[thing] + max(behind, default=0)
    return weights


def heaviest_way(order, needs=None):
    """Return the tuple of the greatest weight of a led way of needy things, and the least such led way."""
    told = check_needs(len(order), needs)
    weights = way_weights(order, told)
    most = max(weights, default=0)
    way = []
    left = most
    fitting = tuple(range(len(order)))
    while left > 0:
        thing = min([other for other in fitting if weights[other] == left])
        way.append(thing)
        left = left - told[thing]
        fitting = [other for other in order.web.near(thing) if order.ahead(thing, other)]
    return (most, tuple(way))


def most_ahead(order, needs=None):
    """Return the tuple of the greatest need of a needy thing and all clashing ones ahead, and the least such thing."""
    told = check_needs(len(order), needs)
    best = (0, None)
    for thing in range(len(order)):
        total = told[thing] + weight(told, order.ahead_of(thing))
        if told[thing] > 0 and total > best[0]:
            best = (total, thing)
    return best
