"""Unseen things: their clashes, their order, their needs and their starts are known only in part."""

from perfectorders.arrivals import check_arrivals
from perfectorders.errors import BadNotes
from perfectorders.masks import mask_of
from perfectorders.maybes import check_world, world_of
from perfectorders.notes import Notes, check_notes
from perfectorders.orders import Order
from perfectorders.possibles import late_threes, led_rows
from perfectorders.starts import needs_of_three


def told_notes(maybe_web, notes):
    """Return the notes, which must tell of all things; None stands for 1 everywhere."""
    if notes is None:
        return Notes.just((1,) * maybe_web.many)
    return check_notes(maybe_web, notes)


def check_low_starts(starts):
    """Check that no thing may start at 0."""
    for thing, low in enumerate(starts.low):
        if low == 0:
            raise BadNotes(thing)


def arrivals_ahead(arrivals):
    """Return for each thing the mask of the things that can be ahead of it."""
    things = list(range(len(arrivals.spans)))
    return [mask_of([x for x in things if arrivals.can_be_ahead(x, y)]) for y in things]


def pairs_among(maybe_web, pairs):
    """Return those of the pairs that are maybes, with the lesser thing first."""
    told = [(min(pair), max(pair)) for pair in pairs]
    return [pair for pair in told if pair in maybe_web.maybe]


class Unseen:
    """Things with a maybe web, arrivals, notes of needs and notes of starts."""

    def __init__(self, maybe_web, arrivals, *, notes=None, starts=None):
        self.maybe_web = maybe_web
        self.arrivals = check_arrivals(maybe_web.many, arrivals)
        self.notes = told_notes(maybe_web, notes)
        self.start_notes = told_notes(maybe_web, starts)
        check_low_starts(self.start_notes)

    def possible_bad(self):
        """Return the possibly bad rows, ascending."""
        return led_rows(self.maybe_web, arrivals_ahead(self.arrivals))

    def possible_three(self):
        """Return the possible threes (b, c, d), ascending."""
        starts = self.start_notes
        return late_threes(self.maybe_web, arrivals_ahead(self.arrivals), starts.low, starts.high)

    def is_safe(self):
        """Tell whether there is no possibly bad row and no possible three."""
        return not self.possible_bad() and not self.possible_three()

    def counter_world(self):
        """Return (web, row, part) in which the first possibly bad row is bad, None if there is none."""
        rows = self.possible_bad()
        if not rows:
            return None
        a, b, c, d = rows[0]
        web = world_of(self.maybe_web, pairs_among(self.maybe_web, [(a, b), (b, c), (c, d)]))
        return (web, self.arrivals.row_with([(a, b), (d, c)]), tuple(sorted(rows[0])))

    def counter_starts(self):
        """Return (web, row, starts, needs) that are booked above the floor because of the first possible three.

        None if there is no possible three, or if there is a possibly bad row.
        """
        found = self.possible_three()
        if not found or self.possible_bad():
            return None
        b, c, d = found[0]
        web = world_of(self.maybe_web, pairs_among(self.maybe_web, [(b, c), (c, d)]))
        starts = self.start_notes.high_on((b,))
        needs = needs_of_three(web.many, starts, found[0])
        return (web, self.arrivals.row_with([(d, c)]), starts, needs)

    def order_in(self, web, times):
        """Return the Order of the world by these times."""
        arrivals = self.arrivals
        row = arrivals(times)
        check_world(self.maybe_web, web)
        return Order(web, row)
