"""[0.3] to [0.8] for all calls together."""

import copy
import subprocess
import sys
import unittest
from pathlib import Path

from perfectorders.amounts import check_needs, check_things, weight
from perfectorders.arrivals import Arrivals, window_for
from perfectorders.booked import AheadBook
from perfectorders.books import Book, alike_in_parts, book_by_rooms, first_lot, room_count, squeezed
from perfectorders.bounds import heaviest_way, most_ahead
from perfectorders.choices import (check_choice, choice_of, choice_ring, choice_tree, fits_choice, has_right_order,
                                   is_choice_tree, order_of_choice, right_order, right_order_count, right_orders)
from perfectorders.climbs import climb, holding_knots, is_best, reaches, top_knot
from perfectorders.counts import (both_led, line_right_leads, mixings, put_in_bad, representatives, sides_count)
from perfectorders.covers import cover, cover_lot, cover_size, meeting_knot
from perfectorders.desks import Desk
from perfectorders.errors import BadNumber, BadPart, OrdersError, TooMany
from perfectorders.foes import FoeBook
from perfectorders.joins import beside, joined, made_one, number_of, product, put_in, thing_of
from perfectorders.kinds import bad_in, first_against, keeps, kinds_of, letter_order, row_letters, row_tally
from perfectorders.knots import (full_knots, full_lots, heaviest, heaviest_knots, heaviest_lots, is_knot, is_lot,
                                 knots_of, lots_of)
from perfectorders.lazy import is_lazy, lazy_bookings, lazy_counter, with_pair
from perfectorders.leads import (is_lead, lead_count, leads_of, may_turn, order_of_lead, other_way, right_lead_count,
                                 right_leads, turn_breaks, turned_clash)
from perfectorders.listings import line_of, listing, row_text, span_table
from perfectorders.lots import common_thing, first_rooms_out, left_out, missed_knots, missed_part
from perfectorders.makers import doubled, mixed_rows
from perfectorders.maybes import MaybeWeb, possible_rows
from perfectorders.mending import least_mendings, meets_all_bad, mended, mending_price
from perfectorders.notes import Notes
from perfectorders.orders import Order, joined_order, order_by, product_order, put_in_order, same_lead
from perfectorders.papers import Papers, safe_above, safe_below
from perfectorders.peeling import is_takes_order, peel_takes, peeled
from perfectorders.places import Stretch, may_be_first, may_be_last, moves_of, new_bad, places_for, put_first
from perfectorders.products import joint_count, joint_room
from perfectorders.quads import contrary_row, ends_of, is_row, middles_of, rows_of_four, threes
from perfectorders.raises import (contrary_ways, cost, dearer_needs, dearer_now, even_way, free_together, lot_cost,
                                  need_line, pair_room, raised, raised_heaviest, slack)
from perfectorders.right import bad_rows, check_right, counter_needs, counter_pair, counter_part, first_bad, is_right
from perfectorders.rings import blocking_ring, contrary_ring, odd_ring, ring_bad_row, ring_orders, ring_row
from perfectorders.rules import Rules, unsafe_order, unsafe_row, unsafe_three, unsafe_twofold
from perfectorders.settled import (booking_with, check_booking, order_of_booking, room_ends, rooms_row,
                                   settled_bookings, unsettled)
from perfectorders.startkinds import all_starts_order, barring_four, early_end, pieces, start_run, starts_for
from perfectorders.starts import (StartBook, bad_threes, check_starts, floor, floor_paper, start_climb, starts_counter,
                                  starts_fit)
from perfectorders.strangers import (free_of, held_by, high_things, met_by, outside_bad, with_stranger,
                                     worst_strangers)
from perfectorders.taking import (Taking, core, core_paper, is_core_like, no_ends, no_middles, order_by_core,
                                  takes_order)
from perfectorders.texts import web_from, web_text
from perfectorders.threekinds import (between, is_gathered, is_middles_first, is_passing, middle_last, numbers_for,
                                      put_in_kinds, three_needs)
from perfectorders.trials import Trial, tried
from perfectorders.together import bulge, common_best, gap_together, sum_needs
from perfectorders.twofold import Fourfold, check_twofold, first_knot, is_twofold, shared_thing
from perfectorders.unseen import Unseen
from perfectorders.unseenends import (critical_in_all, critical_in_some, highest_rooms, lowest_rooms, slack_over,
                                      world_with_rooms)
from perfectorders.webs import Web
from perfectorders.worlds import (can_be_critical, critical_paper, must_be_critical, room_ends_of, slack_ends,
                                  slack_worlds, world_of_slack, world_with)
from tests.by_hand import Case

ROOT = Path(__file__).resolve().parent.parent
LINE = Web.line(4)
WEB = Web(5, [(0, 1), (2, 0), (1, 2), (2, 3), (4, 3)])
ORDER = Order(LINE, (0, 3, 1, 2))
RIGHT = Order.plain(LINE)
HOUSE = Web(5, [(0, 1), (0, 2), (1, 3), (2, 3), (0, 4), (1, 4)])
NOTES = Notes((0, 1, 1, 0), (2, 1, 3, 4))
MOST = 10 ** 12


def played(needs, *lots):
    """A FoeBook after some deeds, with all that they returned."""
    foe = FoeBook(RIGHT, needs)
    got = tuple(foe.will(lot) for lot in lots)
    return (got, foe.own(), foe.finish(), foe.spans_so_far(), foe.now_left, foe.heavy, foe.own_many, foe.will_many,
            foe.met_many, foe.needs, foe.order)


# Calls with lists wherever a list may be passed; generators are read to the end.
CALLS = {
    "check_things": (check_things, 5, [3, 1]), "check_needs": (check_needs, 2, [3, 1]), "weight": (weight, [1, 2], [1]),
    "Web": (Web, 3, [[0, 1], [2, 1]]), "part": (WEB.part, [3, 1, 2]), "with_thing": (WEB.with_thing, [4, 1]),
    "stretches": (Web.stretches, [[0, 2], [2, 3], [4, 4]]), "falling": (Web.falling, [3, 1, 2]),
    "ruled": (Web.ruled, 3, [[0, 1], [1, 2]]), "near": (WEB.near, 2), "without": (WEB.without, 2),
    "settled": (WEB.settled, 0, 4, True), "ring": (Web.ring, 5), "web_text": (web_text, WEB),
    "web_from": (web_from, "web 3: 0-1"), "rows_of_four": (rows_of_four, WEB), "is_row": (is_row, LINE, 0, 1, 2, 3),
    "threes": (threes, WEB), "contrary_row": (contrary_row, [0, 1, 2, 3]), "ends_of": (ends_of, LINE, 0, [3, 2, 1, 0]),
    "middles_of": (middles_of, LINE, 1, [3, 2, 1, 0]), "is_knot": (is_knot, WEB, [2, 1]), "is_lot": (is_lot, WEB, [4, 0]),
    "knots_of": (lambda part: tuple(knots_of(WEB, part)), [3, 2, 0]),
    "lots_of": (lambda part: tuple(lots_of(WEB, part)), [3, 2, 0]),
    "full_knots": (full_knots, WEB, [3, 2, 0]), "full_lots": (full_lots, WEB, [3, 2, 0]),
    "heaviest": (heaviest, WEB, [1, 2, 3, 4, 5], [2, 1]), "heaviest_knots": (heaviest_knots, WEB, [1, 2, 3, 4, 5]),
    "heaviest_lots": (heaviest_lots, WEB, [1, 2, 3, 4, 5]), "beside": (beside, LINE, WEB), "joined": (joined, LINE, WEB),
    "put_in": (put_in, Web.line(2), [LINE, WEB]), "thing_of": (thing_of, [LINE, WEB], 6),
    "number_of": (number_of, [LINE, WEB], 1, 2), "product": (product, Web.line(2), LINE), "made_one": (made_one, WEB, 1, 4),
    "doubled": (doubled, 3), "mixed_rows": (lambda rows: tuple(mixed_rows(rows)), [[1, 0], [], [2]]),
    "Order": (Order, LINE, [0, 3, 1, 2]), "ahead_of": (ORDER.ahead_of, 1), "lead": (ORDER.lead,),
    "order.part": (ORDER.part, [3, 1]), "on": (ORDER.on, Web(4)), "moved": (ORDER.moved, 0, 2),
    "plain": (Order.plain, WEB), "order_by": (order_by, LINE, [3, 1, 1, 0]), "same_lead": (same_lead, ORDER, ORDER),
    "joined_order": (joined_order, [ORDER, ORDER], [0, 1, 1, 0, 0, 1, 1, 0], True),
    "put_in_order": (put_in_order, Order.plain(Web.line(2)), [ORDER, ORDER]),
    "product_order": (product_order, Order.plain(Web.line(2)), ORDER), "Book": (Book, ORDER, [1, 2, 3, 4]),
    "holds": (Book(ORDER).holds, [1, 0], 2), "holds_all": (Book(ORDER).holds_all, [2, 1, 0]),
    "rooms_of": (Book(ORDER).rooms_of, 2), "last_of": (Book(ORDER).last_of, 2), "lot_at": (Book(ORDER).lot_at, 1),
    "book_by_rooms": (book_by_rooms, ORDER, [1, 2, 3, 4]), "room_count": (room_count, ORDER, [1, 2, 3, 4]),
    "first_lot": (first_lot, ORDER, [3, 2]), "alike_in_parts": (alike_in_parts, ORDER, ~ORDER),
    "squeezed": (squeezed, [[2, [0, 2]], [1, [2]]], [2]), "check_booking": (check_booking, LINE, [1, 2, 1, 2]),
    "unsettled": (unsettled, LINE, [1, 3, 1, 2]), "order_of_booking": (order_of_booking, LINE, [1, 2, 1, 2]),
    "rooms_row": (rooms_row, ORDER), "room_ends": (room_ends, LINE), "booking_with": (booking_with, LINE, 3),
    "settled_bookings": (lambda: tuple(settled_bookings(LINE)),), "heaviest_way": (heaviest_way, ORDER, [1, 2, 3, 4]),
    "most_ahead": (most_ahead, ORDER, [1, 2, 3, 4]), "joint_room": (joint_room, 3, 2), "joint_count": (joint_count, 3, 2),
    "bad_rows": (bad_rows, ORDER), "first_bad": (first_bad, ORDER), "is_right": (is_right, ORDER),
    "check_right": (check_right, Order.plain(LINE)), "counter_part": (counter_part, ORDER),
    "counter_needs": (counter_needs, ORDER), "counter_pair": (counter_pair, ORDER),
    "missed_knots": (missed_knots, ORDER, [3, 2, 1, 0]), "missed_part": (missed_part, ORDER),
    "common_thing": (common_thing, ORDER, [1], [0]), "left_out": (left_out, ORDER, [[2, 0], [3]], [2, 1, 0]),
    "first_rooms_out": (first_rooms_out, Book(ORDER), 1),
}
CALLS.update({
    "climb": (climb, Book(RIGHT), 2), "top_knot": (top_knot, Book(RIGHT)), "holding_knots": (holding_knots, Book(RIGHT)),
    "is_best": (is_best, Book(ORDER)), "reaches": (reaches, Book(ORDER), [2, 1], 1),
    "sum_needs": (sum_needs, [1, 2], [3, 4]), "gap_together": (gap_together, ORDER, [1, 0, 2, 1], [0, 1, 0, 3]),
    "common_best": (common_best, RIGHT, [1, 0, 2, 1], [0, 0, 1, 1]), "bulge": (bulge, ORDER, [1, 0, 2, 1], [1, 2, 0, 1]),
    "cover": (cover, RIGHT, [2, 1, 3, 1]), "cover_size": (cover_size, RIGHT, [2, 1, 3, 1]),
    "cover_lot": (cover_lot, LINE, [2, 1, 3, 1]), "meeting_knot": (meeting_knot, RIGHT, [2, 1, 3, 1]),
    "raised": (raised, [1, 2], [3, 4]), "raised_heaviest": (raised_heaviest, LINE, [2, 1, 3, 1], [1, 1, 0, 2]),
    "need_line": (need_line, LINE, [2, 1, 3, 1], 0), "slack": (slack, LINE, [2, 1, 3, 1], 0),
    "pair_room": (pair_room, LINE, [2, 1, 3, 1], 0, 1), "no pair_room": (pair_room, LINE, [2, 1, 3, 1], 0, 2),
    "free_together": (free_together, LINE, [2, 1, 3, 1], 0, 1, 1, 0), "cost": (cost, LINE, [2, 1, 3, 1], [3, 0, 0, 1]),
    "lot_cost": (lot_cost, LINE, [2, 1, 3, 1], [3, 0, 0, 1]), "contrary_ways": (contrary_ways, HOUSE, 0, 1),
    "even_way": (even_way, HOUSE, 0, 1), "dearer_needs": (dearer_needs, HOUSE, 0, 1),
    "dearer_now": (dearer_now, HOUSE, [0, 0, 1, 1, 1], 0, 1),
    "Notes": (lambda low, high: (Notes(low, high).low, Notes(low, high).high), [0, 1], [2, 1]),
    "kept notes": (lambda needs: Notes.just(needs).high, [0, 1]), "holds_needs": (NOTES.holds_needs, [1, 1, 2, 0]),
    "high_on": (NOTES.high_on, [3, 0]), "worlds": (lambda: tuple(NOTES.worlds()),),
    "room_ends_of": (room_ends_of, LINE, NOTES), "world_with": (world_with, LINE, NOTES, 5),
    "slack_ends": (slack_ends, LINE, NOTES, 0), "slack_worlds": (slack_worlds, LINE, NOTES, 0),
    "world_of_slack": (world_of_slack, LINE, NOTES, 0, 2), "can_be_critical": (can_be_critical, LINE, NOTES, 0),
    "must_be_critical": (must_be_critical, LINE, NOTES, 0), "critical_paper": (critical_paper, LINE, NOTES, 0),
    "FoeBook": (played, [2, 1, 3, 1], [3, 1], [], [2, 0]), "held_by": (held_by, Book(ORDER), [3, 1]),
    "free_of": (free_of, Book(ORDER), [3, 1]), "met_by": (met_by, Book(ORDER), [3, 1]),
    "outside_bad": (outside_bad, ORDER, []), "with_stranger": (with_stranger, ORDER, [3, 1], 2),
    "worst_strangers": (worst_strangers, ORDER, 2), "high_things": (high_things, Book(ORDER), 1),
})
CALLS.update({
    "AheadBook": (AheadBook, ORDER, [[2], [], [], [4, 1]], [9, 2, 2, 9]), "check_starts": (check_starts, 2, [3, 1]),
    "own_count": (lambda rooms: AheadBook(ORDER, rooms).own_count, [[2], [], [], [4, 1]]),
    "held_by ahead": (held_by, AheadBook(ORDER, [[2], [], [], [4]]), [0, 1]),
    "free_of starts": (free_of, StartBook(ORDER, [2, 3, 1, 1]), [0, 1]),
    "StartBook": (StartBook, ORDER, [2, 3, 1, 1], [1, 0, 2, 1]), "floor": (floor, LINE, [2, 3, 1, 1], [1, 0, 2, 1]),
    "floor_paper": (floor_paper, LINE, [2, 3, 1, 1], [1, 0, 2, 1]), "bad_threes": (bad_threes, ORDER, [1, 1, 3, 1]),
    "starts_fit": (starts_fit, ORDER, [1, 1, 3, 1]), "starts_counter": (starts_counter, ORDER, [1, 1, 3, 1]),
    "start_climb": (start_climb, StartBook(RIGHT, (1, 1, 1, 1))), "early_end": (early_end, ORDER),
    "starts_for": (starts_for, LINE, [0, 1, 2]), "all_starts_order": (all_starts_order, Web.star(4)),
    "barring_four": (barring_four, LINE), "pieces": (pieces, LINE, [3, 1, 0]),
    "start_run": (start_run, ORDER, [1, 1, 3, 1], 1), "row_letters": (row_letters, ORDER, [3, 2, 1, 0]),
    "bad_in": (bad_in, ORDER, "F"), "kinds_of": (kinds_of, ORDER), "keeps": (keeps, ORDER, "FT"),
    "first_against": (first_against, ORDER, "FT"), "letter_order": (letter_order, ORDER, "D"), "row_tally": (row_tally,),
    "between": (between, RIGHT), "middle_last": (middle_last, ORDER), "is_passing": (is_passing, ORDER),
    "is_gathered": (is_gathered, ORDER), "is_middles_first": (is_middles_first, ORDER),
    "three_needs": (three_needs, LINE, [2, 0, 1]), "put_in_kinds": (put_in_kinds, Order.plain(Web(2)), [ORDER, RIGHT]),
    "numbers_for": (numbers_for, Order.plain(Web.falling([3, 1, 2]))),
    "lazy_bookings": (lambda: tuple(lazy_bookings(ORDER)),), "is_lazy": (is_lazy, ORDER, [1, 2, 3, 1]),
    "with_pair": (with_pair, ORDER), "lazy_counter": (lazy_counter, ORDER), "is_twofold": (is_twofold, ORDER),
    "check_twofold": (check_twofold, RIGHT), "first_knot": (first_knot, ORDER, [3, 1, 0]),
    "shared_thing": (shared_thing, RIGHT, [3, 1, 0]),
    "Fourfold": (lambda needs: tuple(vars(Fourfold(RIGHT, needs)).values()), [2, 1, 3, 1]),
    "check_choice": (check_choice, LINE, [3]), "choice_of": (choice_of, RIGHT),
    "fits_choice": (fits_choice, ORDER, [3]), "choice_ring": (choice_ring, Web.line(6), [3, 1, 2]),
    "order_of_choice": (order_of_choice, LINE, [3]), "choice_tree": (choice_tree, Web.ring(5)),
    "is_choice_tree": (is_choice_tree, Web.ring(5), choice_tree(Web.ring(5))), "has_right_order": (has_right_order, WEB),
    "right_order": (right_order, LINE), "right_orders": (lambda: tuple(right_orders(LINE)),),
    "right_order_count": (right_order_count, LINE),
})

RING = Web.ring(5)
RULES = Rules(4, [(1, 3), (2, 0)])


def stretch_told(others, letters):
    """All that a Stretch tells."""
    stretch = Stretch(LINE, others, 0, letters)
    return (stretch.web, stretch.others, stretch.thing, stretch.letters, stretch.floors, stretch.roofs, stretch.first,
            stretch.last, stretch.is_none, stretch.place_list(), stretch.has(1), stretch.order_at(1), len(stretch))


def taken(*takes):
    """All that a Taking tells after some takes."""
    taking = Taking(LINE)
    got = tuple(taking.take(*take) for take in takes)
    return (got, taking.things_left, taking.takes_row, taking.front, taking.back, taking.web, taking.take_all())


def rules_told(many, pairs, more):
    """All that Rules tell."""
    rules = Rules(many, pairs)
    return (rules.many, rules.pairs, rules.precedes(0, 1), rules.least_row(), rules.least_row_with(more),
            tuple(rules.all_rows()), rules.keeps_order([1, 0, 2]), (rules + more[0]).pairs)


CALLS.update({
    "ring_row": (ring_row, RING, [4, 3, 2, 1, 0]), "odd_ring": (odd_ring, RING), "contrary_ring": (contrary_ring, ~RING),
    "blocking_ring": (blocking_ring, RING), "ring_orders": (ring_orders, 8),
    "ring_bad_row": (ring_bad_row, Order.plain(RING), [4, 3, 2, 1, 0]), "lead_count": (lead_count, WEB, [4, 2, 1]),
    "leads_of": (lambda: tuple(leads_of(LINE)),), "right_leads": (lambda: tuple(right_leads(LINE)),),
    "is_lead": (is_lead, LINE, [[1, 0], [1, 2], [3, 2]]), "order_of_lead": (order_of_lead, LINE, [[1, 0], [1, 2], [3, 2]]),
    "right_lead_count": (right_lead_count, WEB), "other_way": (other_way, Order.plain(Web.full(4)), 0, 3),
    "may_turn": (may_turn, RIGHT, 0, 1), "turned_clash": (turned_clash, RIGHT, 1, 2),
    "turn_breaks": (turn_breaks, RIGHT, 0, 1), "line_right_leads": (line_right_leads, 9), "mixings": (mixings, [2, 1, 3]),
    "sides_count": (sides_count, [2, 5], [1, 2]), "both_led": (both_led, ORDER),
    "representatives": (lambda webs: tuple(representatives(webs)), [LINE, Web(0), Web(2)]),
    "put_in_bad": (put_in_bad, Web.line(1), [LINE], ORDER), "across": (put_in_bad, LINE, [Web(1)] * 4, ORDER),
    "Stretch": (stretch_told, [3, 1, 2], "FD"), "put_first": (put_first, LINE, [3, 1, 2], 0),
    "places_for": (lambda others: places_for(RING, others, 0).two_rows(), [1, 2, 3, 4]),
    "moves_of": (lambda: moves_of(ORDER, 1).place_list(),), "may_be_first": (may_be_first, LINE, 0),
    "may_be_last": (may_be_last, LINE, 0), "new_bad": (new_bad, LINE, [3, 1, 2], 0, 0),
    "no_ends": (no_ends, LINE, [3, 1, 0]), "no_middles": (no_middles, LINE, [3, 2, 1, 0]),
    "Taking": (taken, [1, "front"], [3]), "core": (core, RING), "is_core_like": (is_core_like, RING, [4, 2, 0, 1, 3]),
    "core_paper": (core_paper, RING), "takes_order": (takes_order, Taking(LINE), [3, 1, 2, 0]),
    "order_by_core": (order_by_core, LINE), "peeled": (peeled, RIGHT), "is_takes_order": (is_takes_order, RIGHT),
    "peel_takes": (peel_takes, RIGHT), "meets_all_bad": (meets_all_bad, ORDER, [3, 1]),
    "least_mendings": (least_mendings, ORDER), "mended": (mended, ORDER, [3, 1]),
    "mending_price": (mending_price, ORDER, [3, 1], [1, 2, 3, 4]),
    "Rules": (rules_told, 3, [[0, 1]], [[1, 2], [0, 2]]), "unsafe_row": (unsafe_row, LINE, Rules(4)),
    "Rules.rows": (lambda rows: Rules.rows(4, rows).pairs, [[3, 1], [0, 2]]), "unsafe_order": (unsafe_order, LINE, Rules(4)),
    "unsafe_three": (unsafe_three, LINE, RULES, "gathered"), "unsafe_twofold": (unsafe_twofold, LINE, Rules(4)),
})

MAYBE = MaybeWeb(4, [(0, 1), (2, 3)], [(1, 2)])
ARRIVALS = Arrivals(((0, 0), (1, 1), (2, 2), (1, 1)))
UNSEEN = Unseen(MAYBE, ARRIVALS)
NEEDY = Unseen(MAYBE, ARRIVALS, notes=Notes((1, 1, 1, 1), (1, 2, 1, 1)))


def maybes_told(many, sure, maybe, clashing):
    """All that a MaybeWeb tells."""
    web = MaybeWeb(many, sure, maybe)
    told = [web, web.settle_pair(1, 2, True), MaybeWeb.below(LINE), MaybeWeb.above(LINE)]
    return (tuple((one.many, one.sure, one.maybe) for one in told), web.can_clash(0, 1), web.can_be_gap(0, 1),
            web.lowest(), web.highest(), web(clashing), web.is_world(LINE), tuple(web.worlds()), possible_rows(web))


def arrivals_told(spans, row, pairs, times):
    """All that Arrivals tell."""
    arrivals = Arrivals(spans)
    return (arrivals.spans, arrivals.can_be_ahead(0, 1), arrivals.fits(row), arrivals.times_of(row),
            arrivals.sure_rules(), arrivals.row_with(pairs), arrivals(times), window_for(LINE, arrivals, 0))


def unseen_told(times):
    """All that Unseen tells."""
    late = Unseen(MAYBE, Arrivals([(0, 0)] + [(1, 2)] * 2 + [(9, 9)]), starts=Notes((1,) * 4, (3, 1, 1, 1)))
    return (UNSEEN.possible_bad(), UNSEEN.possible_three(), UNSEEN.is_safe(), UNSEEN.counter_world(),
            UNSEEN.order_in(MAYBE.lowest(), times), late.possible_three(), late.counter_starts(),
            UNSEEN.notes.low, UNSEEN.start_notes.high)


def papers_told(row, pairs):
    """All that Papers tell."""
    papers = Papers(row, MAYBE)
    world = MAYBE([(1, 2)])
    return (papers.row, papers.is_paper_right(world, pairs), papers.is_paper_wrong(world, pairs),
            papers.least_right(world), papers.least_wrong(world), papers.least_right(MAYBE.lowest()))


def desk_told(clashes, maybes, near, maybe, deeds):
    """All that a Desk tells behind some deeds."""
    desk = Desk(4, clashes=clashes, maybes=maybes)
    news = (desk.come(near, maybe=maybe), desk.need(4, 3), desk.start(1, 2), desk.mark(0), desk.move(4, 0),
            desk.settle(2, 3, True), desk.unmark(0), desk.undo(2), desk.go(2), desk.do("mark", [1]))
    held = (desk.held.many, desk.held.sure, desk.held.maybe)
    with Trial(desk) as trial:
        ended = trial.ended
        desk.mark(0)
    return (news, held, desk.web_now, desk.order_now, desk.needs_now, desk.starts_now, desk.strangers_now,
            desk.standing, desk.shown, desk.show(2), desk.twin().deeds(), desk.room_count_now(), desk.book(), desk.lot(),
            desk.is_right_now(), desk.is_safe_now(), desk.price_now(), desk.core_now(), desk.places_now(near[1:], []),
            desk.places_safe(near[1:]), desk.told(lot=1, slack_of=0, first=near[1:]), desk.deeds(), desk.news_of(0),
            desk.same_as(desk.twin()), desk.ask("lot", 1), desk.what_if(deeds, "deeds"), tried(desk, deeds),
            line_of(desk, 0), listing(desk), span_table(desk.book()), ended, trial.ended)


CALLS.update({
    "MaybeWeb": (maybes_told, 4, [[1, 0], [2, 3]], [[2, 1], [0, 3]], [[1, 2]]),
    "Arrivals": (arrivals_told, [[0, 0], [1, 3], [2, 2], [1, 4]], [0, 1, 2, 3], [[1, 2]], [0, 3, 2, 2]),
    "Unseen": (unseen_told, [0, 1, 2, 1]), "Papers": (papers_told, [0, 3, 1, 2], [[2, 1]]),
    "safe_below": (safe_below, LINE, [0, 3, 1, 2]), "safe_above": (safe_above, LINE, [0, 3, 1, 2]),
    "lowest_rooms": (lowest_rooms, NEEDY), "highest_rooms": (highest_rooms, NEEDY),
    "world_with_rooms": (world_with_rooms, NEEDY, 3), "slack_over": (slack_over, NEEDY, 3),
    "critical_in_some": (critical_in_some, NEEDY, 3), "critical_in_all": (critical_in_all, NEEDY, 3),
    "Desk": (desk_told, [[1, 0], [1, 2]], [[3, 2]], [2, 1], [3], [["mark", [0]], ["come", [[0], 1, [1]]], ["undo", []]]),
    "row_text": (row_text, [3, 1, 2]),
})


def spoil(value):
    """Change all lists within the value."""
    if isinstance(value, list):
        for part in value:
            spoil(part)
        value.append("spoilt")
        value.insert(0, "spoilt")


def as_tuples(value):
    if isinstance(value, (list, tuple)):
        return tuple(as_tuples(part) for part in value)
    return value


class Values(Case):
    def plain(self, value):
        """An integer, a string, True, False, None, an object of the package, or a tuple of these."""
        if isinstance(value, tuple):
            self.assertIs(type(value), tuple)
            for part in value:
                self.plain(part)
        elif isinstance(value, (Web, Order, Book, Rules)):
            book = ("order", "needs", "spans", "room_count")
            for name in {Web: ("many", "clashes", "many_clashes"), Order: ("web", "row", "LETTERS"), Book: book,
                         Rules: ("many", "pairs"),
                         AheadBook: (*book, "rooms_ahead", "ahead_things", "own_count"),
                         StartBook: (*book, "starts")}[type(value)]:
                self.plain(getattr(value, name))
        else:
            self.assertIn(type(value), (int, str, bool, type(None)))

    def test_no_call_returns_a_list_or_a_dict(self):
        for name, (call, *rest) in CALLS.items():
            with self.subTest(name):
                self.plain(call(*rest))

    def test_no_call_changes_its_arguments(self):
        for name, (call, *rest) in CALLS.items():
            with self.subTest(name):
                lists = [copy.deepcopy(value) if isinstance(value, list) else value for value in rest]
                call(*rest)
                self.assertEqual(rest, lists)

    def test_no_call_keeps_a_list(self):
        for name, (call, *rest) in CALLS.items():
            with self.subTest(name):
                lists = [copy.deepcopy(value) if isinstance(value, list) else value for value in rest]
                got = call(*lists)
                for value in lists:
                    spoil(value)
                expected = call(*rest)
                self.assertTrue(got == expected)
                self.plain(got)

    def test_lists_and_tuples_do_alike(self):
        for name, (call, *rest) in CALLS.items():
            with self.subTest(name):
                self.assertTrue(call(*rest) == call(*as_tuples(rest)))

    def test_equal_arguments_give_equal_results(self):
        for name, (call, *rest) in CALLS.items():
            with self.subTest(name):
                self.assertTrue(call(*rest) == call(*rest))

    def test_yielded_values(self):
        for results in (knots_of(WEB), lots_of(WEB), mixed_rows([[0], [1]]), settled_bookings(LINE), NOTES.worlds(),
                        lazy_bookings(ORDER), right_orders(LINE), leads_of(LINE), right_leads(LINE), RULES.all_rows(),
                        representatives([LINE, Web(2)]), MAYBE.worlds()):
            for result in results:
                self.plain(result)


class Generators(Case):
    def test_arguments_are_checked_when_the_first_result_is_asked_for(self):
        for told, error in ((knots_of(WEB, [7]), BadPart(0)), (lots_of(WEB, [1, 1]), BadPart(1)),
                            (mixed_rows([], limit=0), BadNumber("limit")),
                            (settled_bookings(WEB, limit=True), BadNumber("limit")),
                            (NOTES.worlds(limit=0), BadNumber("limit")), (right_orders(Web(8)), TooMany(7)),
                            (lazy_bookings(ORDER, limit=None), BadNumber("limit")),
                            (leads_of(LINE, limit="1"), BadNumber("limit")), (RULES.all_rows(limit=0), BadNumber("limit")),
                            (right_leads(LINE, limit=0), BadNumber("limit")), (MAYBE.worlds(limit=0), BadNumber("limit"))):
            self.assertIs(iter(told), told)
            self.raises(error, next, told)


class Errors(Case):
    def test_a_call_that_raises_changes_nothing(self):
        web, order = Web.line(3), Order.plain(Web.line(3))
        book = Book(order, (1, 2, 3))
        foe = FoeBook(order, (0, 1, 1))
        taking, rules = Taking(Web.line(4)), Rules(3, [(0, 1)])
        calls = ((taking.take, 0, "front"), (taking.take, 0, 3), (taking.take, 9), (rules.__add__, (1, 0)),
                 (foe.will, [0]), (foe.will, [1, 2]), (foe.will, [3]), (web.part, [0, 0]), (web.with_thing, [9]),
                 (web.settled, 0, 0, True), (order.moved, 0, 9),
                 (order.on, Web(9)), (book.holds, [0], 0), (book.lot_at, 0))
        for call, *rest in calls:
            with self.assertRaises(OrdersError):
                call(*rest)
        self.same((web, order.row, book.spans), (Web(3, [(0, 1), (1, 2)]), (0, 1, 2), Book(order, (1, 2, 3)).spans))
        self.same((taking.things_left, taking.takes_row, rules.pairs), ((0, 1, 2, 3), (), ((0, 1),)))
        self.same((foe.now_left, foe.spans_so_far(), foe.will_many, foe.met_many), ((0, 1, 1), (), 0, 0))


class Sizes(Case):
    """The work of no call grows with the size of the numbers: these would not end otherwise."""

    def test_great_needs(self):
        needs = (MOST, MOST - 1, MOST, 7)
        book = Book(ORDER, needs)
        self.same(sum(count for count, _ in book), book.room_count)
        self.same(book_by_rooms(ORDER, needs), book.spans)
        self.same(book.lot_at(10 ** 14), ())
        self.same(book.holds((0, 1), 10 ** 14), False)
        self.same(first_rooms_out(book, 10 ** 14), (0, 0, 0, 0))
        self.same(heaviest(LINE, needs), 2 * MOST - 1)
        self.same(heaviest_way(ORDER, needs), (3 * MOST - 1, (0, 1, 2)))

    def test_great_needs_of_right_orders(self):
        needs = (MOST, MOST - 1, MOST, 7)
        self.same(top_knot(Book(RIGHT, needs)), (0, 1))
        self.same(sum(count for count, _ in cover(RIGHT, needs)), 2 * MOST)
        self.same(met_by(Book(ORDER, needs), (0,)), MOST - 7)
        self.same(slack_ends(LINE, Notes((0,) * 4, needs), 3), (0, 2 * MOST - 1))
        self.same(FoeBook(ORDER, needs).finish(), 2 * MOST + 6)

    def test_great_starts(self):
        starts = (MOST, 1, MOST - 5, 3)
        book = StartBook(RIGHT, starts, (MOST, 7, MOST, MOST))
        # The last thing takes the rooms 3 to MOST - 6, and 8 more behind those of thing 2.
        self.same((book.room_count, book.last_of(2), held_by(book, (1,))), (2 * MOST + 2, 2 * MOST - 6, 7))
        self.same(floor(LINE, starts, book.needs), 2 * MOST + 2)

    def test_great_numbers_of_unseen_things_and_desks(self):
        notes = Notes((1,) * 4, (MOST,) * 4)
        unseen = Unseen(MAYBE, ARRIVALS, notes=notes, starts=notes)
        self.same((lowest_rooms(unseen), highest_rooms(unseen)), (2, 3 * MOST - 1))
        web, needs, starts = world_with_rooms(unseen, 3 * MOST - 1)
        self.same((web, needs, starts), (LINE, (MOST, MOST, 1, 1), (MOST,) * 4))
        self.same(slack_over(Unseen(MAYBE, ARRIVALS, notes=notes), 0), (0, 2 * MOST - 2))
        desk = Desk(2, clashes=[(0, 1)])
        self.same((desk.start(0, MOST), desk.need(0, MOST), desk.need(1, MOST), desk.lot(10 ** 14)),
                  ((f"rooms {MOST}",), (f"rooms {2 * MOST - 1}",), (f"rooms {2 * MOST}",), ()))
        first = f"1-{MOST - 1}".rjust(27)
        self.same(span_table(desk.book()), (f"{first}: 1", f"{MOST}-{2 * MOST - 1}: 0", f"{2 * MOST}-{2 * MOST}: 1"))

    def test_great_rooms(self):
        self.same(unsettled(LINE, (10 ** 14, 10 ** 14 - 1, 10 ** 14, 1)), (0, 1))
        self.same(check_booking(LINE, (10 ** 14, 1, 10 ** 14, 1)), (10 ** 14, 1, 10 ** 14, 1))
        self.same(joint_count(10 ** 14, 10 ** 14), 2 ** 47)
        self.same(joint_room(10 ** 14, 1), 10 ** 14)

    def test_sixteen_things(self):
        web = Web(16, [(x, y) for x in range(16) for y in range(x + 1, 16) if (x * y) % 3 != 1])
        order = Order(web, tuple(range(0, 16, 2)) + tuple(range(1, 16, 2)))
        needs = tuple(MOST - thing for thing in range(16))
        self.same(book_by_rooms(order, needs), Book(order, needs).spans)
        self.assertGreaterEqual(room_count(order, needs), heaviest(web, needs))
        self.same(bad_rows(order), tuple(row for row in rows_of_four(web)
                                         if order.ahead(row[0], row[1]) and order.ahead(row[3], row[2])))
        self.same(full_knots(Web.full(16)), (tuple(range(16)),))
        self.same(len(full_knots(joined(*[Web.bare(2)] * 8))), 256)


class Imports(Case):
    def test_each_module_can_be_imported_first(self):
        modules = sorted(path.stem for path in (ROOT / "perfectorders").glob("*.py"))
        self.assertIn("__init__", modules)
        code = "import importlib, sys; importlib.import_module(sys.argv[1])"
        for module in modules:
            name = "perfectorders" if module == "__init__" else "perfectorders." + module
            done = subprocess.run([sys.executable, "-c", code, name], cwd=ROOT, capture_output=True, text=True)
            self.assertEqual((done.returncode, done.stdout, done.stderr), (0, "", ""), name)

    def test_init_defines_nothing(self):
        code = ("import perfectorders; print([name for name in vars(perfectorders) if not name.startswith('__')])")
        done = subprocess.run([sys.executable, "-c", code], cwd=ROOT, capture_output=True, text=True)
        self.assertEqual(done.stdout.strip(), "[]")


if __name__ == "__main__":
    unittest.main()
