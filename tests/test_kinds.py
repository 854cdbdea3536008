"""perfectorders/kinds.py: [76] letters, [77] what a letter tells, [78] letters of one row, [86] made webs."""

import unittest
from itertools import permutations, product

from perfectorders.errors import BadNumber, BadPart
from perfectorders.joins import put_in
from perfectorders.kinds import bad_in, first_against, keeps, kinds_of, letter_order, row_letters, row_tally
from perfectorders.makers import mixed_rows
from perfectorders.orders import Order, joined_order, put_in_order
from perfectorders.right import is_right
from perfectorders.webs import Web
from tests.by_hand import Case, NO_INTEGERS, all_orders, all_webs, rows_by_hand, some_webs, subsets

LINE = Web.line(4)
WRONG = Order(LINE, (0, 3, 1, 2))
TEXTS = ("", "F", "T", "C", "D", "FT", "DC", "FD", "CT", "TF", "FTCD", "DDF", "CCCC")
NO_LETTERS = (None, 3, True, ("F",), ["F"], b"F", LINE)


def letters_by_hand(row, a, b, c, d):
    """The letters in which the row of four is bad, from the words of [76]."""
    place = {thing: at for at, thing in enumerate(row)}
    tests = (("F", (a, b), (d, c)), ("T", (b, a), (c, d)), ("C", (b, d), (c, a)), ("D", (d, b), (a, c)))
    return "".join(letter for letter, one, other in tests
                   if place[one[0]] < place[one[1]] and place[other[0]] < place[other[1]])


def cases():
    for web in [*all_webs(4, 4), *some_webs(29)]:
        if rows_by_hand(web):
            yield from all_orders(web)[::1 + 6 * (web.many == 5)]


def bad_by_letter(order, letter):
    return tuple(row for row in rows_by_hand(order.web) if letter in letters_by_hand(order.row, *row))


class Letters(Case):
    def test_rows(self):
        for order in cases():
            for row in rows_by_hand(order.web):
                letters = letters_by_hand(order.row, *row)
                self.same((row_letters(order, list(row)), row_letters(order, row[::-1])), (letters, letters))

    def test_orders(self):
        for order in cases():
            kept = "".join(letter for letter in "FTCD" if not bad_by_letter(order, letter))
            self.same(kinds_of(order), kept)
            for letter in "FTCD":
                self.same(bad_in(order, letter), bad_by_letter(order, letter))
            for letters in TEXTS:
                bad = [row for row in rows_by_hand(order.web) if set(letters) & set(letters_by_hand(order.row, *row))]
                self.same(first_against(order, letters), bad[0] if bad else None)
                self.same(keeps(order, letters), not bad)

    def test_the_document_s_example(self):
        self.same((kinds_of(WRONG), row_letters(WRONG, (3, 2, 1, 0)), first_against(WRONG, "TF"),
                   kinds_of(Order(LINE, (1, 0, 2, 3)))), ("TC", "FD", (0, 1, 2, 3), "FCD"))

    def test_webs_without_rows(self):
        for web in (Web(0), Web(1), Web.full(5), Web.bare(5), Web.star(5), Web.ring(4)):
            for order in all_orders(web)[::17]:
                self.same((kinds_of(order), bad_in(order, "D"), first_against(order, "FTCD"), keeps(order, "FTCD")),
                          ("FTCD", (), None, True))

    def test_errors(self):
        for value in (*NO_LETTERS, "f", "X", " "):
            for call in (bad_in, letter_order, first_against, keeps):
                self.raises(BadNumber("letter"), call, WRONG, value)
        for text in ("", "FT", "FF", "TC"):
            for call in (bad_in, letter_order):
                self.raises(BadNumber("letter"), call, WRONG, text)
        for text in ("FTCDX", "F T", "ft", "F,"):
            for call in (first_against, keeps):
                self.raises(BadNumber("letter"), call, WRONG, text)
        for order in (Order.plain(Web(0)), Order.plain(Web(3))):
            self.raises(BadNumber("letter"), keeps, order, "x")
            self.raises(BadNumber("letter"), bad_in, order, "x")

    def test_what_is_no_row(self):
        wrong = [None, 3, "0123", (), (0, 1, 2), (0, 1, 2, 3, 3), (0, 1, 2, 2), (0, 2, 1, 3), (3, 2, 0, 1), (0, 1, 2, 4),
                 (-1, 0, 1, 2), {0: 1}, LINE, [(0, 1, 2, 3)], ((0, 1), 1, 2, 3)]
        wrong.extend((0, value, 2, 3) for value in NO_INTEGERS)
        for row in wrong:
            self.raises(BadPart(0), row_letters, WRONG, row)
        self.raises(BadPart(0), row_letters, Order.plain(Web.ring(4)), (0, 1, 2, 3))


class LetterOrders(Case):
    def test_what_they_are(self):
        for order in list(cases())[::7]:
            web, row = order.web, order.row
            self.same([letter_order(order, letter) for letter in "FTCD"],
                      [order, Order(web, row[::-1]), Order(~web, row), Order(~web, row[::-1])])

    def test_kept_if_right(self):
        for order in cases():
            self.same("".join(letter for letter in "FTCD" if is_right(letter_order(order, letter))), kinds_of(order))
            self.same(keeps(order, "F"), is_right(order))

    def test_edges(self):
        none = Order.plain(Web(0))
        for letter in "FTCD":
            self.same(letter_order(none, letter), none)
        self.same(letter_order(Order(Web.full(3), (2, 0, 1)), "D"), Order(Web.bare(3), (1, 0, 2)))


class OneRow(Case):
    def test_tally(self):
        rows = list(permutations("abcd"))
        self.same(row_tally(), tuple(("".join(row), letters_by_hand(row, *"abcd")) for row in rows))
        letters = [told for _, told in row_tally()]
        self.same([letters.count(told) for told in ("", "FD", "TC")], [8, 4, 4])
        self.same(sum(len(told) == 1 for told in letters), 8)

    def test_two_letters(self):
        for order in list(cases())[::3]:
            place = {thing: at for at, thing in enumerate(order.row)}
            rows = rows_by_hand(order.web)

            def each(test):
                return all(test(*[place[thing] for thing in row]) for row in rows)

            def ends_first(a, b, c, d):
                return min(a, b, c, d) in (a, d)

            def ends_last(a, b, c, d):
                return max(a, b, c, d) in (a, d)

            self.same(keeps(order, "FT"), each(lambda a, b, c, d: (a < b) == (c < d)))
            self.same(keeps(order, "CD"), each(lambda a, b, c, d: (a < c) == (b < d)))
            self.same(keeps(order, "FD"), not any(ends_first(*[place[x] for x in row]) and
                                                  not ends_last(*[place[x] for x in row]) for row in rows))
            self.same(keeps(order, "TC"), not any(ends_last(*[place[x] for x in row]) and
                                                  not ends_first(*[place[x] for x in row]) for row in rows))
            self.same(keeps(order, "FTCD"), each(lambda a, b, c, d: ends_first(a, b, c, d) == ends_last(a, b, c, d)))


class MadeWebs(Case):
    def test_parts(self):
        for order in list(cases())[::61]:
            kept = kinds_of(order)
            for part in subsets(range(len(order))):
                self.assertLessEqual(set(kept), set(kinds_of(order.part(part))))

    def test_mixed_orders(self):
        orders = [Order(LINE, row) for row in ((0, 1, 2, 3), (0, 3, 1, 2), (1, 0, 2, 3))] + [Order.plain(Web(2))]
        for one, other in product(orders, repeat=2):
            numbers = [[(0, k) for k in range(len(one))], [(1, k) for k in range(len(other))]]
            mixings = [[number for number, _ in row] for row in mixed_rows(numbers)][::9]
            for mixing, clashing in product(mixings, (False, True)):
                whole = joined_order([one, other], mixing, clashing)
                for letter in "FTCD":
                    self.same(keeps(whole, letter), keeps(one, letter) and keeps(other, letter))

    def test_put_in(self):
        inner = [Order.plain(Web(1)), Order.plain(Web.full(2)), Order(LINE, (1, 0, 2, 3))]
        for row in ((0, 1, 2, 3), (0, 3, 1, 2), (2, 1, 0, 3)):
            outer = Order(LINE, row)
            for webs in product(inner, repeat=4):
                whole = put_in_order(outer, list(webs))
                if sum(len(order) for order in webs) <= 9:
                    self.same(whole.web, put_in(LINE, [order.web for order in webs]))
                    for letter in "FTCD":
                        self.same(keeps(whole, letter), all(keeps(order, letter) for order in (outer, *webs)))


if __name__ == "__main__":
    unittest.main()
