"""perfectorders/listings.py: [148] lines."""

import unittest

from perfectorders.booked import AheadBook
from perfectorders.books import Book
from perfectorders.desks import Desk
from perfectorders.errors import BadThing
from perfectorders.listings import line_of, listing, row_text, span_table
from perfectorders.orders import Order
from perfectorders.starts import StartBook
from perfectorders.webs import Web
from tests.by_hand import Case, NO_INTEGERS, sides
from tests.test_desks import played

MOST = 10 ** 12
PLAIN = Order.plain(Web.line(4))


def runs_by_hand(rooms):
    runs = []
    for room in sorted(rooms):
        if runs and runs[-1][1] == room - 1:
            runs[-1][1] = room
        else:
            runs.append([room, room])
    return " ".join(f"{first}-{last}" for first, last in runs)


def line_by_hand(plain, thing):
    if thing not in plain.row:
        return f"thing {thing}: gone"
    near = [str(x) for x in range(plain.many) if sides(x, thing) in plain.sure]
    maybe = [str(x) for x in range(plain.many) if sides(x, thing) in plain.maybe]
    rooms = plain.held()[thing]
    parts = [f"place {plain.row.index(thing)}"]
    parts += ["stranger"] * (thing in plain.strangers)
    parts += [f"need {plain.needs[thing]}", f"start {plain.starts[thing]}"]
    parts += ["near " + " ".join(near)] * bool(near)
    parts += ["maybe " + " ".join(maybe)] * bool(maybe)
    parts += ["rooms " + runs_by_hand(rooms)] * bool(rooms)
    return f"thing {thing}: " + ", ".join(parts)


class Lines(Case):
    def test_from_what_stands(self):
        for number in range(40):
            desk, plain = played(number, 9)
            lines = tuple(line_by_hand(plain, thing) for thing in range(plain.many))
            self.same(tuple(line_of(desk, thing) for thing in range(plain.many)), lines)
            bad = plain.bad_row()
            right = "right" if bad is None else "row {} {} {} {}".format(*bad)
            safe = "safe" if plain.against() is None else "unsafe"
            head = f"{len(plain.row)} things, {plain.rooms()} rooms, {right}, {safe}"
            self.same(listing(desk), (head, *lines, f"deeds {desk.standing}"))

    def test_example(self):
        desk = Desk(3, clashes=[(0, 1), (1, 2)])
        news = desk.go(0)
        self.same((news, listing(desk)),
                  ((), ("2 things, 2 rooms, right, safe", "thing 0: gone",
                        "thing 1: place 0, need 1, start 1, near 2, rooms 1-1",
                        "thing 2: place 1, need 1, start 1, near 1, rooms 2-2", "deeds 1")))

    def test_all_parts_of_a_line(self):
        desk = Desk(4, clashes=[(0, 1), (3, 1)], maybes=[(1, 2)])
        desk.need(0, 1), desk.need(1, MOST), desk.mark(1), desk.move(1, 3)
        desk.start(0, 3), desk.need(3, 1)
        self.same(line_of(desk, 1),
                  f"thing 1: place 3, stranger, need {MOST}, start 1, near 0 3, maybe 2, rooms 2-2 4-{MOST + 2}")
        desk.need(1, 0)
        self.same(line_of(desk, 1), "thing 1: place 3, stranger, need 0, start 1, near 0 3, maybe 2")

    def test_a_wrong_desk_and_an_empty_one(self):
        desk = Desk(4, clashes=[(0, 1), (1, 2), (2, 3)])
        desk.move(3, 0)
        self.same((listing(desk)[0], listing(desk)[-1]), ("4 things, 3 rooms, row 0 1 2 3, unsafe", "deeds 1"))
        self.same(listing(Desk()), ("0 things, 0 rooms, right, safe", "deeds 0"))
        desk = Desk(1)
        desk.go(0)
        self.same(listing(desk), ("0 things, 0 rooms, right, safe", "thing 0: gone", "deeds 1"))

    def test_bad_things(self):
        desk = Desk(3)
        desk.go(1)
        for value in (-1, 3, *NO_INTEGERS):
            self.raises(BadThing(value), line_of, desk, value)
        self.raises(BadThing(0), line_of, Desk(), 0)


class Tables(Case):
    def by_hand(self, book):
        rows, room = [], 1
        for count, lot in book.spans:
            rows.append((f"{room}-{room + count - 1}", lot))
            room += count
        width = max([len(run) for run, _ in rows], default=0)
        return tuple(" " * (width - len(run)) + run + ": " + (" ".join(map(str, lot)) or "none") for run, lot in rows)

    def test_spans(self):
        for book in (Book(PLAIN, (3, 0, 2, 10 ** 9)), Book(PLAIN), StartBook(PLAIN, (3, 1, 12, 1), (2, 1, 30, 0)),
                     StartBook(PLAIN, (MOST, 1, 5, MOST), (MOST, 10, MOST, 2)),
                     AheadBook(PLAIN, ((2,), (), (), (40, 10)), (9, 2, 2, 9))):
            self.same(span_table(book), self.by_hand(book))
        self.same(span_table(Book(PLAIN, (3, 0, 2, 100))), ("  1-2: 0 2", "  3-3: 0 3", "4-102: 3"))

    def test_empty_lots_and_no_spans(self):
        book = StartBook(Order.plain(Web(2)), (2, 11), (2, 1))
        self.same(span_table(book), ("  1-1: none", "  2-3: 0", " 4-10: none", "11-11: 1"))
        self.same((span_table(Book(PLAIN, (0,) * 4)), span_table(Book(Order.plain(Web(0))))), ((), ()))

    def test_of_a_desk(self):
        desk, _ = played(4)
        self.same(span_table(desk.book()), self.by_hand(desk.book()))


class Rows(Case):
    def test_rows(self):
        self.same((row_text((3, 1, 2)), row_text([10]), row_text(()), row_text([]), row_text((-1, MOST))),
                  ("3 < 1 < 2", "10", "", "", f"-1 < {MOST}"))
        self.same(row_text(Order(Web.line(4), (0, 3, 1, 2)).row), "0 < 3 < 1 < 2")


if __name__ == "__main__":
    unittest.main()
