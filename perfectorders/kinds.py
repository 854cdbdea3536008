"""Kinds of orders, told by letters: the ways in which rows of four are bad in them."""

from perfectorders.amounts import is_thing
from perfectorders.errors import BadNumber, BadPart
from perfectorders.makers import mixed_rows
from perfectorders.orders import Order
from perfectorders.quads import is_row, rows_of_four
from perfectorders.webs import Web


def check_letters(letters):
    """Return the text of letters."""
    if not isinstance(letters, str) or any([letter not in Order.LETTERS for letter in letters]):
        raise BadNumber("letter")
    return letters


def check_letter(letter):
    """Return the letter."""
    if len(check_letters(letter)) != 1:
        raise BadNumber("letter")
    return letter


def bad_letters(order, row):
    """Return the letters in which the row of four is bad, in the order FTCD."""
    a, b, c, d = row
    found = ""
    if order.ahead(a, b) and order.ahead(d, c):
        found = found + "F"
    if order.ahead(b, a) and order.ahead(c, d):
        found = found + "T"
    if order.ahead(b, d) and order.ahead(c, a):
        found = found + "C"
    if order.ahead(d, b) and order.ahead(a, c):
        found = found + "D"
    return found


def check_row(web, row):
    """Return the row, a row of four of the web."""
    if not isinstance(row, (list, tuple)) or len(row) != 4:
        raise BadPart(0)
    if any([not is_thing(web.many, thing) for thing in row]) or not is_row(web, *row):
        raise BadPart(0)
    return row


def row_letters(order, row):
    """Return the letters in which the row of four is bad, in the order FTCD."""
    return bad_letters(order, check_row(order.web, row))


def bad_in(order, letter):
    """Return the rows of four that are bad in the letter, an ascending tuple."""
    check_letter(letter)
    return tuple([row for row in rows_of_four(order.web) if letter in bad_letters(order, row)])


def first_against(order, letters):
    """Return the least row of four that is bad in at least one of the letters, None if there is none."""
    check_letters(letters)
    for row in rows_of_four(order.web):
        if any([letter in letters for letter in bad_letters(order, row)]):
            return row
    return None


def keeps(order, letters):
    """Tell whether the order keeps all these letters."""
    return first_against(order, letters) is None


def kinds_of(order):
    """Return the letters that the order keeps, in the order FTCD."""
    return "".join([letter for letter in Order.LETTERS if keeps(order, letter)])


def letter_order(order, letter):
    """Return the letter order: the order keeps the letter if this one is right."""
    check_letter(letter)
    row_order = ~order if letter in "TD" else order
    if letter in "CD":
        return row_order.on(~order.web)
    return row_order


def row_tally():
    """Return for each order of a row of four, as a text, the letters in which it is bad; ascending."""
    web = Web.line(4)
    names = "abcd"
    rows = [[thing] for thing in range(web.many)]
    return tuple([("".join([names[thing] for thing in row]), bad_letters(Order(web, row), (0, 1, 2, 3)))
                  for row in mixed_rows(rows)])
