"""Webs as lines of text."""

from perfectorders.errors import BadText, BadWeb
from perfectorders.webs import Web


def web_text(web):
    """Return the line of the web."""
    pairs = "".join([f" {x}-{y}" for x, y in web.clashes])
    return f"web {web.many}:{pairs}"


def is_numeral(text):
    """Tell whether the text is a numeral without leading zeros."""
    if text == "" or any([sign not in "0123456789" for sign in text]):
        return False
    return text == "0" or text[0] != "0"


def is_pair_word(word):
    """Tell whether the word is two numerals with one sign `-` between them."""
    parts = word.split("-")
    return len(parts) == 2 and is_numeral(parts[0]) and is_numeral(parts[1])


def is_formed(words):
    """Tell whether the words, which single spaces divide, are those of the line of a web."""
    if len(words) < 2 or words[0] != "web" or not words[1].endswith(":"):
        return False
    return is_numeral(words[1][:-1]) and all([is_pair_word(word) for word in words[2:]])


def pair_of(word):
    """Return the two numbers of a word of two numerals."""
    first, second = word.split("-")
    return (int(first), int(second))


def web_from(line):
    """Return the Web of the line."""
    if not isinstance(line, str):
        raise BadText(line)
    words = line.split(" ")
    if not is_formed(words):
        raise BadText(line)
    pairs = [pair_of(word) for word in words[2:]]
    try:
        web = Web(int(words[1][:-1]), pairs)
    except BadWeb as why:
        raise BadText(line) from why
    if web.many_clashes < len(pairs):
        raise BadText(line)
    return web
