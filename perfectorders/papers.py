"""Papers: maybes that, settled as they are in a world, show that a row is right in it, or that it is not."""

from perfectorders.errors import TooMany
from perfectorders.masks import least_meeting, mask_of
from perfectorders.maybes import MaybeWeb, check_maybes, check_world
from perfectorders.orders import checked_row
from perfectorders.possibles import led_rows, row_ahead
from perfectorders.unseen import pairs_among
from perfectorders.webs import checked_clashes

MOST_MAYBES = 15


def pairs_against(web, row):
    """Return the pairs by which the possible row is none of four in the world; they all are maybes."""
    a, b, c, d = row
    gaps = [(x, y) for x, y in ((a, b), (b, c), (c, d)) if not web.clash(x, y)]
    clashes = [(x, y) for x, y in ((a, c), (b, d), (a, d)) if web.clash(x, y)]
    return [(min(pair), max(pair)) for pair in gaps + clashes]


def maybes_of(maybe_web, row):
    """Return the maybes among the six pairs of the row of four, an ascending tuple."""
    a, b, c, d = row
    return tuple(sorted(pairs_among(maybe_web, [(a, b), (b, c), (c, d), (a, c), (b, d), (a, d)])))


class Papers:
    """The papers of a row of all things of a maybe web."""

    def __init__(self, row, maybe_web):
        self.row = checked_row(maybe_web.many, row)
        self.maybe_web = maybe_web
        # The possible rows of four that are bad in the worlds in which they are rows.
        self.led = led_rows(maybe_web, row_ahead(self.row))

    def told_pairs(self, web, pairs):
        """Return the pairs as maybes with the lesser thing first, ascending."""
        told = checked_clashes(self.maybe_web.many, pairs)
        check_world(self.maybe_web, web)
        check_maybes(self.maybe_web, told)
        return told

    def bad_maybes(self, web):
        """Return for each bad row of the world the maybes among its pairs, a list."""
        return [maybes_of(self.maybe_web, row) for row in self.led if not pairs_against(web, row)]

    def is_paper_right(self, web, pairs):
        """Tell whether the pairs are a paper that the row is right in the world."""
        told = self.told_pairs(web, pairs)
        return all([any([pair in told for pair in pairs_against(web, row)]) for row in self.led])

    def is_paper_wrong(self, web, pairs):
        """Tell whether the pairs are a paper that the row is not right in the world."""
        told = self.told_pairs(web, pairs)
        return any([all([pair in told for pair in maybes]) for maybes in self.bad_maybes(web)])

    def check_few(self, web):
        """Check that the web is a world, and that there are few enough maybes to go through their sets."""
        check_world(self.maybe_web, web)
        if len(self.maybe_web.maybe) > MOST_MAYBES:
            raise TooMany(MOST_MAYBES)

    def least_right(self, web):
        """Return all least papers that the row is right in the world, ascending."""
        self.check_few(web)
        maybes = self.maybe_web.maybe
        masks = [mask_of([maybes.index(pair) for pair in pairs_against(web, row)]) for row in self.led]
        return tuple([tuple([maybes[number] for number in chosen])
                      for chosen in least_meeting(len(maybes), sorted(set(masks)))])

    def least_wrong(self, web):
        """Return all least papers that the row is not right in the world, ascending."""
        self.check_few(web)
        found = sorted(set(self.bad_maybes(web)))
        fewest = min([len(maybes) for maybes in found], default=0)
        return tuple([maybes for maybes in found if len(maybes) == fewest])


def first_led(maybe_web, row):
    """Return the first possible row that is led in at both ends in the row of all things, None if there is none."""
    rows = Papers(row, maybe_web).led
    if rows:
        return rows[0]
    return None


def safe_below(web, row):
    """Return None if the row is right whatever clashes are left out, otherwise the least tuple of things against it."""
    return first_led(MaybeWeb.below(web), row)


def safe_above(web, row):
    """Return None if the row is right whatever clashes are put in, otherwise the least tuple of things against it."""
    return first_led(MaybeWeb.above(web), row)
