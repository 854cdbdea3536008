"""The interface: names, arguments, defaults, and the file and class in which each of them is defined."""

import importlib
import inspect
import unittest

from perfectorders.arrivals import Arrivals
from perfectorders.booked import AheadBook
from perfectorders.books import Book
from perfectorders.desks import Desk
from perfectorders.foes import FoeBook
from perfectorders.maybes import MaybeWeb
from perfectorders.notes import Notes
from perfectorders.orders import Order
from perfectorders.papers import Papers
from perfectorders.places import Stretch
from perfectorders.rules import Rules
from perfectorders.starts import StartBook
from perfectorders.taking import Taking
from perfectorders.trials import Trial
from perfectorders.twofold import Fourfold
from perfectorders.unseen import Unseen
from perfectorders.webs import Web
from tests.by_hand import Case

FUNCTIONS = {
    "amounts": ["is_int(value)", "check_number(value, name, least=0)", "check_thing(many, thing)",
                "check_things(many, things)", "check_needs(many, needs)", "weight(needs, things)"],
    "texts": ["web_text(web)", "web_from(line)"],
    "quads": ["rows_of_four(web)", "is_row(web, a, b, c, d)", "threes(web)", "contrary_row(row)",
              "ends_of(web, thing, part=None)", "middles_of(web, thing, part=None)"],
    "knots": ["is_knot(web, things)", "is_lot(web, things)", "knots_of(web, part=None)", "lots_of(web, part=None)",
              "full_knots(web, part=None)", "full_lots(web, part=None)", "heaviest(web, needs=None, holding=())",
              "heaviest_knots(web, needs=None)", "heaviest_lots(web, needs=None)"],
    "joins": ["beside(first, *rest)", "joined(first, *rest)", "put_in(outer, webs)", "thing_of(webs, thing)",
              "number_of(webs, v, h)", "product(web, other)", "made_one(web, x, y)"],
    "makers": ["doubled(levels)", "mixed_rows(rows, *, limit=500)"],
    "orders": ["order_by(web, numbers)", "same_lead(order, other)", "joined_order(orders, mixing, clashing=False)",
               "put_in_order(outer, orders)", "product_order(order, other)"],
    "books": ["book_by_rooms(order, needs=None)", "room_count(order, needs=None)", "first_lot(order, part=None)",
              "alike_in_parts(order, other)", "squeezed(spans, things)"],
    "settled": ["check_booking(web, rooms)", "unsettled(web, rooms)", "order_of_booking(web, rooms)",
                "rooms_row(order)", "room_ends(web)", "booking_with(web, many)", "settled_bookings(web, *, limit=500)"],
    "bounds": ["heaviest_way(order, needs=None)", "most_ahead(order, needs=None)"],
    "products": ["joint_room(room, other)", "joint_count(many, other)"],
    "right": ["bad_rows(order)", "first_bad(order)", "is_right(order)", "check_right(order)", "counter_part(order)",
              "counter_needs(order)", "counter_pair(order)"],
    "lots": ["missed_knots(order, part=None)", "missed_part(order)", "common_thing(order, knot, lot)",
             "left_out(order, lots, part=None)", "first_rooms_out(book, many)"],
    "climbs": ["climb(book, thing)", "top_knot(book)", "holding_knots(book)", "is_best(book)",
               "reaches(book, knot, room)"],
    "together": ["sum_needs(needs, other)", "gap_together(order, needs, other)", "common_best(order, needs, other)",
                 "bulge(order, needs, other)"],
    "covers": ["cover(order, needs=None)", "cover_size(order, needs=None)", "cover_lot(web, needs=None)",
               "meeting_knot(order, needs=None)"],
    "raises": ["raised(needs, raises)", "raised_heaviest(web, needs, raises)", "need_line(web, needs, thing)",
               "slack(web, needs, thing)", "pair_room(web, needs, x, y)", "free_together(web, needs, x, y, s, t)",
               "cost(web, needs, raises)", "lot_cost(web, needs, raises)", "contrary_ways(web, x, y)",
               "even_way(web, x, y)", "dearer_needs(web, x, y)", "dearer_now(web, needs, x, y)"],
    "notes": [],
    "worlds": ["room_ends_of(web, notes)", "world_with(web, notes, goal)", "slack_ends(web, notes, thing)",
               "slack_worlds(web, notes, thing)", "world_of_slack(web, notes, thing, goal)",
               "can_be_critical(web, notes, thing)", "must_be_critical(web, notes, thing)",
               "critical_paper(web, notes, thing)"],
    "foes": [],
    "strangers": ["held_by(book, things)", "free_of(book, things)", "met_by(book, strangers)",
                  "outside_bad(order, strangers)", "with_stranger(order, near, place)",
                  "worst_strangers(order, many)", "high_things(book, room)"],
    "booked": [],
    "starts": ["check_starts(many, starts)", "floor(web, starts, needs=None)", "floor_paper(web, starts, needs=None)",
               "bad_threes(order, starts)", "starts_fit(order, starts)", "start_climb(book)",
               "starts_counter(order, starts)"],
    "startkinds": ["early_end(order)", "starts_for(web, three)", "all_starts_order(web)", "barring_four(web)",
                   "pieces(web, part=None)", "start_run(order, starts, thing)"],
    "kinds": ["row_letters(order, row)", "bad_in(order, letter)", "kinds_of(order)", "keeps(order, letters)",
              "first_against(order, letters)", "letter_order(order, letter)", "row_tally()"],
    "threekinds": ["between(order)", "middle_last(order)", "is_passing(order)", "is_gathered(order)",
                   "is_middles_first(order)", "three_needs(web, three)", "put_in_kinds(outer, orders)",
                   "numbers_for(order)"],
    "lazy": ["lazy_bookings(order, *, limit=500)", "is_lazy(order, rooms)", "with_pair(order)", "lazy_counter(order)"],
    "twofold": ["is_twofold(order)", "check_twofold(order)", "first_knot(order, part=None)",
                "shared_thing(order, part=None)"],
    "choices": ["check_choice(web, choice)", "choice_of(order)", "fits_choice(order, choice)",
                "choice_ring(web, choice)", "order_of_choice(web, choice)", "choice_tree(web)",
                "is_choice_tree(web, tree)", "has_right_order(web)", "right_order(web)", "right_orders(web)",
                "right_order_count(web)"],
    "rings": ["ring_row(web, part)", "odd_ring(web)", "contrary_ring(web)", "blocking_ring(web)",
              "ring_bad_row(order, part)", "ring_orders(many)"],
    "leads": ["lead_count(web, part=None)", "leads_of(web, *, limit=2000)", "right_leads(web, *, limit=2000)",
              "is_lead(web, lead)", "order_of_lead(web, lead)", "right_lead_count(web)", "other_way(order, x, y)",
              "may_turn(order, x, y)", "turned_clash(order, x, y)", "turn_breaks(order, x, y)"],
    "counts": ["line_right_leads(many)", "mixings(sizes)", "sides_count(counts, sizes)", "both_led(order)",
               "representatives(webs)", "put_in_bad(outer, webs, order)"],
    "places": ["places_for(web, others, thing, letters='F')", "put_first(web, others, thing)",
               "moves_of(order, thing, letters='F')", "may_be_first(web, thing)", "may_be_last(web, thing)",
               "new_bad(web, others, thing, place)"],
    "taking": ["no_ends(web, part=None)", "no_middles(web, part=None)", "core(web)", "is_core_like(web, things)",
               "core_paper(web)", "takes_order(taking, middle=None)", "order_by_core(web)"],
    "peeling": ["peeled(order)", "is_takes_order(order)", "peel_takes(order)"],
    "mending": ["meets_all_bad(order, things)", "least_mendings(order)", "mended(order, things)",
                "mending_price(order, things, needs=None)"],
    "rules": ["unsafe_row(web, rules)", "unsafe_order(web, rules)", "unsafe_three(web, rules, kind)",
              "unsafe_twofold(web, rules)"],
    "arrivals": ["window_for(web, arrivals, thing)"],
    "maybes": ["possible_rows(maybe_web)"],
    "unseen": [],
    "unseenends": ["lowest_rooms(unseen)", "highest_rooms(unseen)", "world_with_rooms(unseen, goal)",
                   "slack_over(unseen, thing)", "critical_in_some(unseen, thing)", "critical_in_all(unseen, thing)"],
    "papers": ["safe_below(web, row)", "safe_above(web, row)"],
    "desks": [],
    "trials": ["tried(desk, deeds)"],
    "listings": ["line_of(desk, thing)", "listing(desk)", "span_table(book)", "row_text(row)"],
}
GENERATORS = ("knots_of", "lots_of", "mixed_rows", "settled_bookings", "worlds", "lazy_bookings", "right_orders",
              "leads_of", "right_leads", "representatives", "all_rows")
CLASSES = {
    "webs.Web": (["__init__(self, many, clashes=())", "clash(self, x, y)", "near(self, x)", "part(self, things)",
                  "without(self, x)", "with_thing(self, near)", "settled(self, x, y, clashing)"],
                 ["ring(many)", "line(many)", "full(many)", "bare(many)", "star(many)", "stretches(rows)",
                  "falling(numbers)", "ruled(many, pairs)"],
                 ["many_clashes"],
                 ["__invert__", "__add__", "__mul__", "__eq__", "__len__", "__contains__", "__getitem__", "__iter__"]),
    "orders.Order": (["__init__(self, web, row)", "ahead(self, x, y)", "ahead_of(self, x)", "lead(self)",
                      "part(self, things)", "on(self, web)", "moved(self, x, place)"],
                     ["plain(web)"], [],
                     ["__invert__", "__eq__", "__len__", "__getitem__", "__contains__", "__iter__"]),
    "books.Book": (["__init__(self, order, needs=None)", "rooms_of(self, x)", "last_of(self, x)",
                    "lot_at(self, room)", "holds(self, things, room)", "holds_all(self, things)"],
                   [], ["room_count"], ["__getitem__", "__len__", "__iter__", "__eq__"]),
    "notes.Notes": (["__init__(self, low, high)", "holds_needs(self, needs)", "high_on(self, things)",
                     "worlds(self, *, limit=500)"], [], ["is_settled"], []),
    "foes.FoeBook": (["__init__(self, order, needs=None)", "own(self)", "will(self, lot)", "spans_so_far(self)",
                      "finish(self)"], [], ["now_left", "heavy", "own_many", "will_many", "met_many"], []),
    "booked.AheadBook": (["__init__(self, order, rooms, needs=None)"], [], ["own_count"], []),
    "starts.StartBook": (["__init__(self, order, starts, needs=None)"], [], [], []),
    "twofold.Fourfold": (["__init__(self, order, needs=None)"], [], [], []),
    "places.Stretch": (["__init__(self, web, others, thing, letters='F')", "has(self, place)", "place_list(self)",
                        "order_at(self, place)", "two_rows(self)"], [], ["first", "last", "is_none"],
                       ["__bool__", "__len__", "__slots__"]),
    "taking.Taking": (["__init__(self, web)", "take(self, thing, side=None)", "take_all(self)"], [],
                      ["things_left", "takes_row"], []),
    "rules.Rules": (["__init__(self, many, pairs=())", "precedes(self, x, y)", "keeps_order(self, row)",
                     "least_row(self)", "least_row_with(self, pairs)", "all_rows(self, *, limit=2000)"],
                    ["rows(many, rows)"], [], ["__add__", "__eq__"]),
    "arrivals.Arrivals": (["__init__(self, spans)", "can_be_ahead(self, x, y)", "fits(self, row)", "times_of(self, row)",
                           "sure_rules(self)", "row_with(self, pairs)", "__call__(self, times)"], [], [], []),
    "maybes.MaybeWeb": (["__init__(self, many, sure=(), maybe=())", "can_clash(self, x, y)", "can_be_gap(self, x, y)",
                         "settle_pair(self, x, y, clashing)", "lowest(self)", "highest(self)",
                         "__call__(self, clashing)", "is_world(self, web)", "worlds(self, *, limit=500)"],
                        ["below(web)", "above(web)"], [], []),
    "unseen.Unseen": (["__init__(self, maybe_web, arrivals, *, notes=None, starts=None)", "possible_bad(self)",
                       "possible_three(self)", "is_safe(self)", "counter_world(self)", "counter_starts(self)",
                       "order_in(self, web, times)"], [], [], []),
    "papers.Papers": (["__init__(self, row, maybe_web)", "is_paper_right(self, web, pairs)",
                       "is_paper_wrong(self, web, pairs)", "least_right(self, web)", "least_wrong(self, web)"],
                      [], [], []),
    "desks.Desk": (["__init__(self, many=0, *, clashes=(), maybes=(), shown=1)", "show(self, room)", "twin(self)",
                    "come(self, near, place=None, *, maybe=(), need=1)", "go(self, thing)", "move(self, thing, place)",
                    "need(self, thing, number)", "start(self, thing, number)", "settle(self, x, y, clashing)",
                    "mark(self, thing)", "unmark(self, thing)", "undo(self, many=1)", "do(self, name, arguments)",
                    "room_count_now(self)", "book(self)", "lot(self, room=None)", "is_right_now(self)",
                    "is_safe_now(self)", "ends_now(self)", "price_now(self)", "core_now(self)",
                    "places_now(self, near, maybe=())", "places_safe(self, near, maybe=())", "told(self, **more)",
                    "deeds(self)", "news_of(self, number)", "same_as(self, other)", "ask(self, question, *rest)",
                    "what_if(self, deeds, question, *rest)"], [],
                   ["held", "web_now", "order_now", "needs_now", "starts_now", "strangers_now", "standing", "shown"], []),
    "trials.Trial": (["__init__(self, desk)"], [], ["ended"], ["__enter__", "__exit__"]),
}
BENEATH = {"booked.AheadBook": "Book", "starts.StartBook": "Book"}
STATIC = {"notes.Notes": ["just(needs)"]}


class Interface(Case):
    def test_functions(self):
        for module_name, told in FUNCTIONS.items():
            module = importlib.import_module("perfectorders." + module_name)
            for text in told:
                name = text.split("(")[0]
                function = vars(module)[name]
                self.assertTrue(inspect.isfunction(function), name)
                self.assertEqual(function.__module__, module.__name__, name)
                self.assertEqual(name + str(inspect.signature(function)), text)
                self.assertEqual(inspect.isgeneratorfunction(function), name in GENERATORS, name)

    def test_classes(self):
        for path, (methods, class_methods, properties, signs) in CLASSES.items():
            module_name, class_name = path.split(".")
            module = importlib.import_module("perfectorders." + module_name)
            made = vars(module)[class_name]
            self.assertEqual(made.__module__, module.__name__)
            for text in methods:
                method = vars(made)[text.split("(")[0]]
                self.assertEqual(method.__name__ + str(inspect.signature(method)), text)
            for text in class_methods:
                name = text.split("(")[0]
                self.assertIsInstance(vars(made)[name], classmethod)
                self.assertEqual(name + str(inspect.signature(getattr(made, name))), text)
            for name in properties:
                self.assertIsInstance(vars(made)[name], property)
            for name in signs:
                self.assertIn(name, vars(made))
            self.assertEqual([base.__name__ for base in made.__bases__], [BENEATH.get(path, "object")])
            for text in STATIC.get(path, []):
                name = text.split("(")[0]
                self.assertIsInstance(vars(made)[name], staticmethod)
                self.assertEqual(name + str(inspect.signature(getattr(made, name))), text)
            for name, value in vars(made).items():
                self.assertEqual(inspect.isgeneratorfunction(value), name in GENERATORS, name)

    def test_attributes_are_set_at_once(self):
        web, order = Web.line(4), Order.plain(Web.line(4))
        maybe_web, arrivals = MaybeWeb.below(web), Arrivals([(0, 1)] * 4)
        for made, names in ((web, "many clashes"), (order, "web row"), (Book(order), "order needs spans"),
                            (Notes((0,), (1,)), "low high"), (FoeBook(order), "order needs"),
                            (AheadBook(order, ((),) * 4), "order needs spans rooms_ahead ahead_things"),
                            (StartBook(order, (1,) * 4), "order needs spans starts"),
                            (Fourfold(order), "order needs rooms knot knots cover_spans lot_told"),
                            (Stretch(web, (1, 2, 3), 0), "web others thing letters floors roofs"),
                            (Taking(web), "web front back"), (Rules(4), "many pairs"), (arrivals, "spans"),
                            (maybe_web, "many sure maybe"), (Unseen(maybe_web, arrivals), "maybe_web arrivals notes start_notes"),
                            (Papers((0, 1, 2, 3), maybe_web), "row maybe_web"), (Trial(Desk()), "desk")):
            for name in names.split():
                self.assertTrue(hasattr(made, name), (made, name))
                self.assertNotIn(name, vars(type(made)) if name not in getattr(made, "__slots__", ()) else ())


if __name__ == "__main__":
    unittest.main()
