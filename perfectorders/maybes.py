"""Maybe webs: webs of which some pairs of things may clash or be a gap."""

from perfectorders.amounts import check_number, check_thing
from perfectorders.errors import BadWeb, NoneSuch, TooMany
from perfectorders.masks import near_masks, whole_mask
from perfectorders.possibles import any_ahead, led_rows
from perfectorders.webs import Web, all_pairs, checked_clashes


def checked_maybes(many, sure, maybe):
    """Return the maybes, none of which may be a sure clash, as pairs (x, y) with x < y, each once, ascending."""
    pairs = []
    for pair in maybe:
        told = checked_clashes(many, [pair])[0]
        if told in sure:
            x, y = pair
            raise BadWeb(x, y)
        pairs.append(told)
    return tuple(sorted(set(pairs)))


def world_of(maybe_web, pairs):
    """Return the world in which just these maybes clash, a Web; nothing is checked."""
    return Web(maybe_web.many, [*maybe_web.sure, *pairs])


def check_maybes(maybe_web, pairs):
    """Check that each of the pairs is a maybe."""
    for pair in pairs:
        if pair not in maybe_web.maybe:
            raise NoneSuch("maybe")


def check_world(maybe_web, web):
    """Check that the web is a world of the maybe web."""
    if not maybe_web.is_world(web):
        raise NoneSuch("world")


class MaybeWeb:
    """A web of things 0 to many - 1: each pair is a sure clash, a maybe or a sure gap."""

    def __init__(self, many, sure=(), maybe=()):
        check_number(many, "many")
        self.many = many
        self.sure = checked_clashes(many, sure)
        self.maybe = checked_maybes(many, self.sure, maybe)
        # For each thing the masks of those with which it can clash, and can be a gap.
        self.clash_masks = near_masks(many, self.sure + self.maybe)
        others = whole_mask(many)
        self.gap_masks = tuple([others & ~mask & ~(1 << thing)
                                for thing, mask in enumerate(near_masks(many, self.sure))])

    def can_clash(self, x, y):
        """Tell whether x and y clash in some world."""
        check_thing(self.many, x)
        check_thing(self.many, y)
        return (self.clash_masks[x] >> y) & 1 == 1

    def can_be_gap(self, x, y):
        """Tell whether x and y are a gap in some world."""
        check_thing(self.many, x)
        check_thing(self.many, y)
        return (self.gap_masks[x] >> y) & 1 == 1

    def settle_pair(self, x, y, clashing):
        """Return the MaybeWeb in which the maybe of x and y has become a sure clash or a sure gap."""
        if not self.can_clash(x, y) or not self.can_be_gap(x, y):
            raise NoneSuch("maybe")
        chosen = (min(x, y), max(x, y))
        left = [pair for pair in self.maybe if pair != chosen]
        if clashing:
            return MaybeWeb(self.many, [*self.sure, chosen], left)
        return MaybeWeb(self.many, self.sure, left)

    def lowest(self):
        """Return the world in which no maybe clashes."""
        return Web(self.many, self.sure)

    def highest(self):
        """Return the world in which all maybes clash."""
        return Web(self.many, self.sure + self.maybe)

    def __call__(self, clashing):
        """Return the world in which just these maybes clash."""
        pairs = checked_clashes(self.many, clashing)
        check_maybes(self, pairs)
        return world_of(self, pairs)

    def is_world(self, web):
        """Tell whether the Web is a world."""
        if web.many != self.many or any([pair not in web.clashes for pair in self.sure]):
            return False
        return all([self.can_clash(x, y) for x, y in web.clashes])

    def worlds(self, *, limit=500):
        """Yield all worlds, ascending by the tuples of their maybes that clash."""
        check_number(limit, "limit", 1)
        many = 0
        # Each entry: the maybes that clash, and the number of those that are behind the last one.
        waiting = [((), len(self.maybe))]
        while waiting:
            pairs, left = waiting.pop()
            if many == limit:
                raise TooMany(limit)
            yield world_of(self, pairs)
            many = many + 1
            # The last entry is taken first, so the least maybe must be put in last.
            for rest in range(left):
                waiting.append(((*pairs, self.maybe[len(self.maybe) - 1 - rest]), rest))

    @classmethod
    def below(cls, web):
        """Return the maybe web in which the clashes of the web are maybes."""
        return cls(web.many, (), web.clashes)

    @classmethod
    def above(cls, web):
        """Return the maybe web in which the gaps of the web are maybes."""
        gaps = [(x, y) for x, y in all_pairs(web.many) if not web.clash(x, y)]
        return cls(web.many, web.clashes, gaps)


def possible_rows(maybe_web):
    """Return all possible rows, ascending."""
    return led_rows(maybe_web, any_ahead(maybe_web.many))
