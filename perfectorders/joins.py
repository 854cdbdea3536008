"""Webs made of webs."""

from perfectorders.amounts import check_number, check_thing, check_two_things, is_thing
from perfectorders.errors import BadNumber, BadThing, NoneSuch
from perfectorders.webs import Web, shifted


def beside(first, *rest):
    """Return the Web of the webs beside one another."""
    whole = first
    for web in rest:
        whole = whole + web
    return whole


def joined(first, *rest):
    """Return the Web of the webs joined."""
    whole = first
    for web in rest:
        whole = whole * web
    return whole


def first_numbers(webs):
    """Return for each web the number that its first thing has in the whole, a list."""
    return [sum([web.many for web in webs[:v]]) for v in range(len(webs))]


def put_in(outer, webs):
    """Return the Web in which the webs are put into the outer web."""
    if len(webs) != outer.many:
        raise BadNumber("webs")
    firsts = first_numbers(webs)
    pairs = []
    for web, first in zip(webs, firsts):
        pairs.extend(shifted(web.clashes, first))
    for u, v in outer.clashes:
        pairs.extend([(firsts[u] + x, firsts[v] + y)
                      for x in range(webs[u].many) for y in range(webs[v].many)])
    return Web(sum([web.many for web in webs]), pairs)


def thing_of(webs, thing):
    """Return the tuple (v, h): the thing of the whole is thing h of web number v."""
    left = check_number(thing, "thing")
    for v, web in enumerate(webs):
        if left < web.many:
            return (v, left)
        left = left - web.many
    raise NoneSuch("thing")


def number_of(webs, v, h):
    """Return the number that thing h of web number v has in the whole."""
    if not is_thing(len(webs), v):
        raise BadThing(v)
    check_thing(webs[v].many, h)
    return first_numbers(webs)[v] + h


def product(web, other):
    """Return the product of both webs."""
    size = other.many
    pairs = [(x * size + y, z * size + y) for x, z in web.clashes for y in range(size)]
    pairs.extend([(x * size + y, x * size + z) for x in range(web.many) for y, z in other.clashes])
    return Web(web.many * size, pairs)


def made_one(web, x, y):
    """Return the Web in which x and y are one thing."""
    check_two_things(web.many, x, y)
    kept = min(x, y)
    gone = max(x, y)
    gained = [(kept, thing) for thing in web.near(gone) if thing != kept]
    return Web(web.many, [*web.clashes, *gained]).without(gone)
