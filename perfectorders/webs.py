"""Webs: things, some pairs of which clash."""

from perfectorders.amounts import are_two_things, check_number, check_thing, check_things, check_two_things
from perfectorders.amounts import is_int, is_pair, is_thing
from perfectorders.errors import BadNumber, BadRules, BadWeb
from perfectorders.masks import near_masks, things_in


def checked_clashes(many, clashes):
    """Return the clashes as pairs (x, y) with x < y, each once, an ascending tuple."""
    pairs = set()
    for pair in clashes:
        if not is_pair(pair):
            raise BadWeb(None, None)
        x, y = pair
        if not is_thing(many, x) or not is_thing(many, y) or x == y:
            raise BadWeb(x, y)
        pairs.add((min(x, y), max(x, y)))
    return tuple(sorted(pairs))


def all_pairs(many):
    """Return all pairs (x, y) of things with x < y, an ascending list."""
    return [(x, y) for x in range(many) for y in range(x + 1, many)]


def shifted(pairs, step):
    """Return the pairs with all their numbers raised by the step, a list."""
    return [(x + step, y + step) for x, y in pairs]


def check_stretches(rows):
    """Check that each entry is a pair of integers (first, last) with first <= last."""
    for row in rows:
        if not is_pair(row):
            raise BadNumber("stretches")
        first, last = row
        if not is_int(first) or not is_int(last) or first > last:
            raise BadNumber("stretches")


def check_unlike_numbers(numbers):
    """Check that the numbers are unlike integers."""
    for number in numbers:
        if not is_int(number):
            raise BadNumber("numbers")
    if len(set(numbers)) < len(numbers):
        raise BadNumber("numbers")


def is_rule(many, under, pair):
    """Tell whether the pair is a rule (x, y) that does not turn round one told by `under`."""
    if not are_two_things(many, pair):
        return False
    x, y = pair
    return (under[y] >> x) & 1 == 0


def under_masks(many, pairs):
    """Return for each thing the mask of all things that it is over, a list."""
    under = [0] * many
    for place, pair in enumerate(pairs):
        if not is_rule(many, under, pair):
            raise BadRules(place)
        x, y = pair
        gained = under[y] | (1 << y)
        for thing in range(many):
            if thing == x or (under[thing] >> x) & 1:
                under[thing] = under[thing] | gained
    return under


class Web:
    """A web of things 0 to many - 1, some pairs of which clash."""

    def __init__(self, many, clashes=()):
        check_number(many, "many")
        self.many = many
        self.clashes = checked_clashes(many, clashes)
        self.masks = near_masks(many, self.clashes)

    @property
    def many_clashes(self):
        """The number of clashes."""
        return len(self.clashes)

    def clash(self, x, y):
        """Tell whether x and y clash."""
        check_thing(self.many, x)
        check_thing(self.many, y)
        return (self.masks[x] >> y) & 1 == 1

    def near(self, x):
        """Return the things that clash with x, an ascending tuple."""
        check_thing(self.many, x)
        return things_in(self.masks[x])

    def part(self, things):
        """Return the part of these things as a Web of its own."""
        kept = check_things(self.many, things)
        pairs = [(kept.index(x), kept.index(y)) for x, y in self.clashes if x in kept and y in kept]
        return Web(len(kept), pairs)

    def without(self, x):
        """Return the part of all things but x as a Web of its own."""
        check_thing(self.many, x)
        return self.part([thing for thing in range(self.many) if thing != x])

    def with_thing(self, near):
        """Return the Web with one thing more, which clashes with just the things in `near`."""
        new = self.many
        pairs = [(x, new) for x in check_things(self.many, near)]
        return Web(new + 1, [*self.clashes, *pairs])

    def settled(self, x, y, clashing):
        """Return the Web in which x and y clash or are a gap; all other pairs stay."""
        check_two_things(self.many, x, y)
        chosen = (min(x, y), max(x, y))
        pairs = [pair for pair in self.clashes if pair != chosen]
        if clashing:
            pairs.append(chosen)
        return Web(self.many, pairs)

    def __invert__(self):
        gaps = [(x, y) for x, y in all_pairs(self.many) if not self.clash(x, y)]
        return Web(self.many, gaps)

    def __add__(self, other):
        if not isinstance(other, Web):
            return NotImplemented
        behind = shifted(other.clashes, self.many)
        return Web(self.many + other.many, [*self.clashes, *behind])

    def __mul__(self, other):
        if not isinstance(other, Web):
            return NotImplemented
        behind = shifted(other.clashes, self.many)
        between = [(x, self.many + y) for x in range(self.many) for y in range(other.many)]
        return Web(self.many + other.many, [*self.clashes, *behind, *between])

    def __eq__(self, other):
        return isinstance(other, Web) and self.many == other.many and self.clashes == other.clashes

    def __len__(self):
        return len(self.masks)

    def __contains__(self, x):
        if not isinstance(x, tuple) or len(x) != 2:
            return False
        first, second = x
        if not is_thing(self.many, first) or not is_thing(self.many, second):
            return False
        return self.clash(first, second)

    def __getitem__(self, at):
        return self.near(at)

    def __iter__(self):
        return iter(self.clashes)

    @classmethod
    def ring(cls, many):
        """Return the Web in which each thing clashes with the next one, the last with thing 0."""
        check_number(many, "many", 3)
        return cls(many, [(x, (x + 1) % many) for x in range(many)])

    @classmethod
    def line(cls, many):
        """Return the Web in which each thing clashes with the next one."""
        check_number(many, "many")
        return cls(many, [(x, x + 1) for x in range(many - 1)])

    @classmethod
    def full(cls, many):
        """Return the Web in which all pairs clash."""
        check_number(many, "many")
        return cls(many, all_pairs(many))

    @classmethod
    def bare(cls, many):
        """Return the Web in which no pair clashes."""
        return cls(many)

    @classmethod
    def star(cls, many):
        """Return the Web in which just thing 0 clashes with all others."""
        check_number(many, "many")
        return cls(many, [(0, x) for x in range(1, many)])

    @classmethod
    def stretches(cls, rows):
        """Return the Web in which two things clash if their stretches have an integer in common."""
        check_stretches(rows)
        pairs = [(x, y) for x, y in all_pairs(len(rows))
                 if rows[x][0] <= rows[y][1] and rows[y][0] <= rows[x][1]]
        return cls(len(rows), pairs)

    @classmethod
    def falling(cls, numbers):
        """Return the Web in which two things clash if the lesser thing has the greater number."""
        check_unlike_numbers(numbers)
        pairs = [(x, y) for x, y in all_pairs(len(numbers)) if numbers[x] > numbers[y]]
        return cls(len(numbers), pairs)

    @classmethod
    def ruled(cls, many, pairs):
        """Return the Web in which two things clash if one is over the other by the pairs."""
        check_number(many, "many")
        under = under_masks(many, pairs)
        return cls(many, [(x, y) for x in range(many) for y in things_in(under[x])])
