"""Doubled webs, and mixings of rows."""

from perfectorders.amounts import check_number
from perfectorders.errors import TooMany
from perfectorders.webs import Web


def doubled(levels):
    """Return the tuple (web, row) of the doubled web of so many levels and the row of its things, ascending."""
    check_number(levels, "levels", 1)
    web = Web(1)
    for _ in range(levels - 1):
        size = web.many
        web = (web + web).settled(size - 1, 2 * size - 1, True)
    return (web, tuple(range(web.many)))


def mixing_of(rows, numbers):
    """Return the mixing that takes its entries from the rows of these numbers, one after another."""
    taken = [0] * len(rows)
    mixing = []
    for number in numbers:
        mixing.append(rows[number][taken[number]])
        taken[number] = taken[number] + 1
    return tuple(mixing)


def numbers_after(numbers):
    """Return the next greater tuple of the same numbers, or None if there is none."""
    for place in reversed(range(len(numbers) - 1)):
        greater = [number for number in numbers[place + 1:] if number > numbers[place]]
        if greater:
            rest = list(numbers[place:])
            rest.remove(min(greater))
            return (*numbers[:place], min(greater), *sorted(rest))
    return None


def mixed_rows(rows, *, limit=500):
    """Yield all mixings of the rows, those that take from an earlier row first coming first."""
    check_number(limit, "limit", 1)
    kept = [tuple(row) for row in rows]
    numbers = tuple([number for number in range(len(kept)) for _ in kept[number]])
    many = 0
    while numbers is not None:
        if many == limit:
            raise TooMany(limit)
        yield mixing_of(kept, numbers)
        many = many + 1
        numbers = numbers_after(numbers)
