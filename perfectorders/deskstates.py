"""What stands on a desk between two deeds, and how each deed changes it."""

from perfectorders.amounts import with_entry
from perfectorders.asks import first_place, floors_and_roofs, forbidding_rows, last_place
from perfectorders.maybes import MaybeWeb
from perfectorders.orders import Order
from perfectorders.possibles import row_against
from perfectorders.right import first_bad
from perfectorders.starts import StartBook
from perfectorders.taking import core


def whole_row(many, row):
    """Return the row of the things that stand, followed by all others, ascending."""
    others = [thing for thing in range(many) if thing not in row]
    return (*row, *others)


class DeskState:
    """What stands on a desk. It never changes: a deed makes another one."""

    def __init__(self, maybe_web, row, needs, starts, strangers):
        self.maybe_web = maybe_web
        self.row = row
        self.needs = needs
        self.starts = starts
        self.strangers = strangers
        self.low_web = maybe_web.lowest()
        self.order = Order(self.low_web, whole_row(maybe_web.many, row))
        self.held_book = StartBook(self.order, starts, needs)
        self.bad_row = first_bad(self.order)
        self.against = row_against(maybe_web, self.order.row, starts)
        self.core_left = core(self.low_web)


def new_state(many, clashes, maybes):
    """Return what stands on a new desk."""
    maybe_web = MaybeWeb(many, clashes, maybes)
    ones = (1,) * many
    return DeskState(maybe_web, tuple(range(many)), ones, ones, ())


def are_same(state, other):
    """Tell whether both agree in all that a desk has."""
    web = state.maybe_web
    second = other.maybe_web
    if web.many != second.many or web.sure != second.sure or web.maybe != second.maybe:
        return False
    if state.row != other.row or state.strangers != other.strangers:
        return False
    return state.needs == other.needs and state.starts == other.starts


def put_at(row, thing, place):
    """Return the row with the thing put in at the place, a tuple."""
    return (*row[:place], thing, *row[place:])


def web_with(state, near, maybe):
    """Return the maybe web with one thing more, with these clashes and maybes."""
    web = state.maybe_web
    new = web.many
    sure = [(thing, new) for thing in near]
    maybes = [(thing, new) for thing in maybe]
    return MaybeWeb(new + 1, [*web.sure, *sure], [*web.maybe, *maybes])


def with_new(state, near, maybe, need, place):
    """Return what stands when a new thing comes at the place."""
    row = put_at(state.row, state.maybe_web.many, place)
    web = web_with(state, near, maybe)
    return DeskState(web, row, (*state.needs, need), (*state.starts, 1), state.strangers)


def without_thing(state, thing):
    """Return what stands when the thing goes."""
    web = state.maybe_web
    sure = [pair for pair in web.sure if thing not in pair]
    maybe = [pair for pair in web.maybe if thing not in pair]
    row = tuple([other for other in state.row if other != thing])
    strangers = tuple([other for other in state.strangers if other != thing])
    needs = with_entry(state.needs, thing, 0)
    return DeskState(MaybeWeb(web.many, sure, maybe), row, needs, with_entry(state.starts, thing, 1), strangers)


def with_place(state, thing, place):
    """Return what stands when the thing moves to the place among the others."""
    others = [other for other in state.row if other != thing]
    return DeskState(state.maybe_web, put_at(others, thing, place), state.needs, state.starts, state.strangers)


def with_need(state, thing, need):
    """Return what stands when the thing has this need."""
    needs = with_entry(state.needs, thing, need)
    return DeskState(state.maybe_web, state.row, needs, state.starts, state.strangers)


def with_start(state, thing, start):
    """Return what stands when the thing has this start."""
    starts = with_entry(state.starts, thing, start)
    return DeskState(state.maybe_web, state.row, state.needs, starts, state.strangers)


def with_settled(state, x, y, clashing):
    """Return what stands when the maybe x, y has become a clash or a gap."""
    web = state.maybe_web.settle_pair(x, y, clashing)
    return DeskState(web, state.row, state.needs, state.starts, state.strangers)


def with_strangers(state, things):
    """Return what stands when just these things are strangers."""
    strangers = tuple(sorted(things))
    return DeskState(state.maybe_web, state.row, state.needs, state.starts, strangers)


def stretch_ends(state, near):
    """Return the pair (P, Q) of the places that leave a right desk right, None if there is none.

    The new thing clashes with the things in `near`; its maybes are taken for gaps.
    """
    web = state.low_web.with_thing(near)
    floors, roofs = floors_and_roofs(web, state.row, state.low_web.many, "F")
    first = first_place(state.row, floors)
    last = last_place(state.row, roofs)
    if first > last:
        return None
    return (first, last)


def barring_rows(state, near):
    """Return the pair of rows of four that forbid all places; there must be none."""
    web = state.low_web.with_thing(near)
    floors, roofs = floors_and_roofs(web, state.row, state.low_web.many, "F")
    return forbidding_rows(state.row, floors, roofs)


def safe_places(state, near, maybe):
    """Return the places at which a new thing leaves the desk safe, ascending."""
    if state.against is not None:
        return ()
    web = web_with(state, near, maybe)
    starts = (*state.starts, 1)
    rows = [whole_row(web.many, put_at(state.row, state.maybe_web.many, place)) for place in range(len(state.row) + 1)]
    return tuple([place for place, row in enumerate(rows) if row_against(web, row, starts) is None])


def row_words(row):
    """Return the things of a row, with single spaces between them."""
    return " ".join([str(thing) for thing in row])


def right_news(before, after):
    """Return what has become of the bad row, a list of texts."""
    if after.bad_row == before.bad_row:
        return []
    if after.bad_row is None:
        return ["right"]
    return [f"row {row_words(after.bad_row)}"]


def safe_news(before, after):
    """Return what has become of being safe, a list of texts."""
    if (after.against is None) == (before.against is None):
        return []
    return ["safe" if after.against is None else "unsafe"]


def number_news(word, before, after):
    """Return the word with the number behind the change if it is another one, a list of texts."""
    if after == before:
        return []
    return [f"{word} {after}"]


def news_between(before, after, more=()):
    """Return the news of the change, a tuple of texts; `more` has those told behind safe and unsafe."""
    rooms = number_news("rooms", before.held_book.room_count, after.held_book.room_count)
    cores = number_news("core", len(before.core_left), len(after.core_left))
    strangers = number_news("strangers", len(before.strangers), len(after.strangers))
    right = right_news(before, after)
    safe = safe_news(before, after)
    return (*rooms, *right, *safe, *more, *cores, *strangers)
