"""Rules, which say that some things are ahead of others, and what every order that keeps them is."""

from perfectorders.amounts import are_two_things, check_number, check_thing
from perfectorders.arrows import has_arrow, row_along, with_arrow
from perfectorders.errors import BadNumber, BadRules, TooMany
from perfectorders.orders import Order, checked_row, places_in
from perfectorders.quads import rows_of_four, threes
from perfectorders.webs import under_masks


def check_pairs(many, pairs):
    """Check that each entry is a pair of two unlike things."""
    for place, pair in enumerate(pairs):
        if not are_two_things(many, pair):
            raise BadRules(place)


def free_things(rules, row):
    """Return the things that may stand behind the row, which begins a row that keeps the rules; ascending."""
    left = [thing for thing in range(rules.many) if thing not in row]
    return [thing for thing in left if not any([has_arrow(rules.under, other, thing) for other in left])]


class Rules:
    """Pairs (x, y), which say that x is ahead of y."""

    def __init__(self, many, pairs=()):
        check_number(many, "many")
        self.many = many
        # For each thing the mask of those that it precedes.
        self.under = tuple(under_masks(many, pairs))
        self.pairs = tuple([tuple(pair) for pair in pairs])

    @classmethod
    def rows(cls, many, rows):
        """Return the Rules that the things of each row keep their sequence."""
        return cls(many, [pair for row in rows for pair in zip(row, row[1:])])

    def precedes(self, x, y):
        """Tell whether a chain of rules leads from x to y."""
        check_thing(self.many, x)
        check_thing(self.many, y)
        return has_arrow(self.under, x, y)

    def keeps_order(self, row):
        """Tell whether the row of all things keeps the rules."""
        places = places_in(checked_row(self.many, row))
        return all([places[x] < places[y] for x, y in self.pairs])

    def least_row(self):
        """Return the least row of all things that keeps the rules."""
        return row_along(self.under)

    def least_row_with(self, pairs):
        """Return the least row that keeps the rules and these pairs, too, None if there is none."""
        check_pairs(self.many, pairs)
        arrows = self.under
        for x, y in pairs:
            arrows = with_arrow(arrows, x, y)
        return row_along(arrows)

    def all_rows(self, *, limit=2000):
        """Yield all rows of all things that keep the rules, ascending."""
        check_number(limit, "limit", 1)
        many = 0
        waiting = [()]
        while waiting:
            row = waiting.pop()
            if len(row) < self.many:
                # The last entry is taken first.
                waiting.extend([(*row, thing) for thing in free_things(self, row)[::-1]])
            elif many < limit:
                yield row
                many = many + 1
            else:
                raise TooMany(limit)

    def __add__(self, other):
        return Rules(self.many, [*self.pairs, other])

    def __eq__(self, other):
        return isinstance(other, Rules) and self.many == other.many and self.under == other.under


def check_rules(web, rules):
    """Return the rules, which must be for as many things as the web has."""
    if rules.many != web.many:
        raise BadRules(min(rules.many, web.many))
    return rules


def unsafe_row(web, rules):
    """Return the least row of four that is bad in some order that keeps the rules, None if there is none."""
    check_rules(web, rules)
    for a, b, c, d in rows_of_four(web):
        crossed = rules.precedes(b, d) and rules.precedes(c, a)
        if not rules.precedes(b, a) and not rules.precedes(c, d) and not crossed:
            return (a, b, c, d)
    return None


def unsafe_order(web, rules):
    """Return the Order with the least row that keeps the rules and in which `unsafe_row` is bad, or None."""
    row = unsafe_row(web, rules)
    if row is None:
        return None
    a, b, c, d = row
    return Order(web, rules.least_row_with([(a, b), (d, c)]))


def is_passing_three(rules, three):
    """Tell whether no order that keeps the rules has the middle of the three between its ends."""
    x, m, y = three
    first = rules.precedes(m, x) or rules.precedes(y, m) or rules.precedes(y, x)
    return first and (rules.precedes(x, m) or rules.precedes(m, y) or rules.precedes(x, y))


def is_safe_three(rules, three, kind):
    """Tell whether the three is as it must be in an order of this kind, whatever order keeps the rules."""
    if kind == "passing":
        return is_passing_three(rules, three)
    x, m, y = three
    if kind == "gathered":
        return rules.precedes(m, x) or rules.precedes(m, y)
    return rules.precedes(m, x) and rules.precedes(m, y)


def unsafe_three(web, rules, kind):
    """Return the first three that keeps some order that keeps the rules from being of this kind, or None."""
    check_rules(web, rules)
    if not isinstance(kind, str) or kind not in ("passing", "gathered", "middles first"):
        raise BadNumber("kind")
    for three in threes(web):
        if not is_safe_three(rules, three, kind):
            return three
    return None


def may_be_first_of(rules, row, thing):
    """Tell whether no thing of the row precedes the thing."""
    return not any([rules.precedes(other, thing) for other in row])


def may_be_last_of(rules, row, thing):
    """Tell whether the thing precedes no thing of the row."""
    return not any([rules.precedes(thing, other) for other in row])


def unsafe_twofold(web, rules):
    """Return the least row of four that may begin with an end and close with a middle, None if there is none."""
    check_rules(web, rules)
    for row in rows_of_four(web):
        a, b, c, d = row
        begins = may_be_first_of(rules, row, a) or may_be_first_of(rules, row, d)
        if begins and (may_be_last_of(rules, row, b) or may_be_last_of(rules, row, c)):
            return row
    return None
