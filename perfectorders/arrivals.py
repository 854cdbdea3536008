"""Arrivals: between which two times each thing comes."""

from perfectorders.amounts import check_thing, is_int, is_pair
from perfectorders.errors import BadNotes, NoneSuch
from perfectorders.orders import checked_row
from perfectorders.quads import ends_of, middles_of
from perfectorders.rules import Rules


def check_spans(spans):
    """Check that each entry is a pair of integers (from, to) with from <= to."""
    for thing, span in enumerate(spans):
        if not is_pair(span):
            raise BadNotes(thing)
        first, last = span
        if not is_int(first) or not is_int(last) or first > last:
            raise BadNotes(thing)


def check_times(spans, times):
    """Check that each thing has a time within its span."""
    for thing, ((first, last), time) in enumerate(zip(spans, times)):
        if not is_int(time) or not first <= time <= last:
            raise BadNotes(thing)
    if len(times) != len(spans):
        raise BadNotes(min(len(times), len(spans)))


def least_times(spans, row):
    """Return the least times that never fall along the row, one for each thing, not always within the spans."""
    times = [0] * len(row)
    ahead = None
    for thing in row:
        first, _ = spans[thing]
        ahead = first if ahead is None else max(ahead, first)
        times[thing] = ahead
    return tuple(times)


def are_in_time(spans, times):
    """Tell whether no time is behind the span of its thing."""
    return all([time <= last for (_, last), time in zip(spans, times)])


class Arrivals:
    """Arrivals tell for each thing the first and the last time at which it may come."""

    def __init__(self, spans):
        check_spans(spans)
        self.spans = tuple([tuple(span) for span in spans])

    def can_be_ahead(self, x, y):
        """Tell whether x and y are unlike and x may come no later than y."""
        check_thing(len(self.spans), x)
        check_thing(len(self.spans), y)
        return x != y and self.spans[x][0] <= self.spans[y][1]

    def fits(self, row):
        """Tell whether the things may come in the sequence of the row."""
        return are_in_time(self.spans, least_times(self.spans, checked_row(len(self.spans), row)))

    def times_of(self, row):
        """Return the least times of the row, one for each thing."""
        times = least_times(self.spans, checked_row(len(self.spans), row))
        if not are_in_time(self.spans, times):
            raise NoneSuch("times")
        return times

    def sure_rules(self):
        """Return the Rules that things are ahead of those that surely come later."""
        things = list(range(len(self.spans)))
        return Rules(len(things), [(x, y) for x in things for y in things if self.spans[x][1] < self.spans[y][0]])

    def row_with(self, pairs):
        """Return the least row that fits and has x ahead of y for each pair (x, y), None if there is none."""
        return self.sure_rules().least_row_with(pairs)

    def __call__(self, times):
        """Return the row by ascending times, things with equal times ascending."""
        check_times(self.spans, times)
        return tuple([thing for _, thing in sorted([(time, thing) for thing, time in enumerate(times)])])


def check_arrivals(many, arrivals):
    """Return the arrivals, which must tell of so many things."""
    told = len(arrivals.spans)
    if told != many:
        raise BadNotes(min(told, many))
    return arrivals


def window_for(web, arrivals, thing):
    """Return (after, before): a window of the thing does no harm if it begins after and ends before; or None each."""
    check_arrivals(web.many, arrivals)
    check_thing(web.many, thing)
    after = [arrivals.spans[b][1] for _, b, c, d in ends_of(web, thing) if arrivals.can_be_ahead(d, c)]
    before = [arrivals.spans[a][0] for a, _, c, d in middles_of(web, thing) if arrivals.can_be_ahead(d, c)]
    return (max(after, default=None), min(before, default=None))
