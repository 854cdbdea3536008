"""Notes: between which two numbers each need lies."""

from perfectorders.amounts import check_needs, check_number, check_things, is_int
from perfectorders.errors import BadNotes, TooMany


def check_ends(low, high):
    """Check that low and high tell for each thing integers with 0 <= low <= high."""
    for thing, (least, most) in enumerate(zip(low, high)):
        if not is_int(least) or not is_int(most) or not 0 <= least <= most:
            raise BadNotes(thing)
    if len(low) != len(high):
        raise BadNotes(min(len(low), len(high)))


def next_world(notes, world):
    """Return the least world above this one, None if there is none."""
    for thing in reversed(range(len(world))):
        if world[thing] < notes.high[thing]:
            return (*world[:thing], world[thing] + 1, *notes.low[thing + 1:])
    return None


class Notes:
    """Notes tell for each thing the least and the greatest need that it may have."""

    def __init__(self, low, high):
        check_ends(low, high)
        self.low = tuple(low)
        self.high = tuple(high)

    @staticmethod
    def just(needs):
        """Return the Notes of which these needs are the only world."""
        return Notes(needs, needs)

    @property
    def is_settled(self):
        """Whether there is just one world."""
        return self.low == self.high

    def holds_needs(self, needs):
        """Tell whether the needs are a world of the notes."""
        told = check_needs(len(self.low), needs)
        return all([low <= need <= high for low, need, high in zip(self.low, told, self.high)])

    def high_on(self, things):
        """Return the world with the highs on the things and the lows on all others, a tuple."""
        chosen = check_things(len(self.low), things)
        return tuple([self.high[thing] if thing in chosen else low for thing, low in enumerate(self.low)])

    def worlds(self, *, limit=500):
        """Yield all worlds, in ascending order."""
        check_number(limit, "limit", 1)
        world = self.low
        many = 0
        while world is not None:
            if many == limit:
                raise TooMany(limit)
            yield world
            many = many + 1
            world = next_world(self, world)


def check_notes(web, notes):
    """Return the notes, which must tell of as many things as the web has."""
    many = len(notes.low)
    if many != web.many:
        raise BadNotes(min(many, web.many))
    return notes
