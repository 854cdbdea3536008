"""Integers, things, sets of things and needs: how they are checked and added up."""

from perfectorders.errors import BadNeeds, BadNumber, BadPart, BadThing


def is_int(value):
    """Tell whether the value is an integer and neither True nor False."""
    return isinstance(value, int) and not isinstance(value, bool)


def is_pair(value):
    """Tell whether the value is a list or tuple of two entries."""
    return isinstance(value, (list, tuple)) and len(value) == 2


def is_thing(many, value):
    """Tell whether the value is one of the things 0 to many - 1."""
    return is_int(value) and 0 <= value < many


def are_two_things(many, value):
    """Tell whether the value is a pair of two unlike things."""
    if not is_pair(value):
        return False
    x, y = value
    return is_thing(many, x) and is_thing(many, y) and x != y


def check_number(value, name, least=0):
    """Return the value, an integer of at least `least`."""
    if not is_int(value) or value < least:
        raise BadNumber(name)
    return value


def check_place(many, place):
    """Return the place, one of 0 to many - 1."""
    if not is_thing(many, place):
        raise BadNumber("place")
    return place


def check_thing(many, thing):
    """Return the thing, one of 0 to many - 1."""
    if not is_thing(many, thing):
        raise BadThing(thing)
    return thing


def check_two_things(many, x, y):
    """Check that x and y are two unlike things."""
    check_thing(many, x)
    check_thing(many, y)
    if x == y:
        raise BadThing(y)


def first_unfit(things, row):
    """Return the first place whose entry is none of the things or stands at an earlier place, too, or None."""
    seen = set()
    for place, thing in enumerate(row):
        if not is_int(thing) or thing not in things or thing in seen:
            return place
        seen.add(thing)
    return None


def check_things(many, things):
    """Return the set of things as an ascending tuple."""
    place = first_unfit(tuple(range(many)), things)
    if place is not None:
        raise BadPart(place)
    return tuple(sorted(things))


def check_part(many, part):
    """Return the things of the part as an ascending tuple; None stands for all things."""
    if part is None:
        return tuple(range(many))
    return check_things(many, part)


def check_needs(many, needs):
    """Return the needs as a tuple; None stands for 1 everywhere."""
    if needs is None:
        return (1,) * many
    for place, need in zip(range(many), needs):
        if not is_int(need) or need < 0:
            raise BadNeeds(place)
    if len(needs) != many:
        raise BadNeeds(min(many, len(needs)))
    return tuple(needs)


def needs_on(many, things, need=1):
    """Return the needs that are `need` on the things and 0 elsewhere."""
    return tuple([need if thing in things else 0 for thing in range(many)])


def needs_off(needs, things):
    """Return the needs that are 0 on the things and as told elsewhere."""
    return tuple([0 if thing in things else need for thing, need in enumerate(needs)])


def lowered(needs, things, count):
    """Return the needs that are lower by `count` on the things and as told elsewhere."""
    return tuple([need - count if thing in things else need for thing, need in enumerate(needs)])


def needy_things(needs):
    """Return the needy things, an ascending tuple."""
    return tuple([thing for thing, need in enumerate(needs) if need > 0])


def with_entry(row, place, entry):
    """Return the tuple with another entry at the place."""
    return (*row[:place], entry, *row[place + 1:])


def meets(things, others):
    """Tell whether the two sets have a thing in common."""
    return any([thing in others for thing in things])


def weight(needs, things):
    """Return the sum of the needs of the things; needs of None are 1 everywhere."""
    if needs is None:
        return len(things)
    return sum([needs[thing] for thing in things])
