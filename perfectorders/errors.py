"""All errors of the package."""


class OrdersError(Exception):
    """The base class of all errors of the package."""


class BadForm(OrdersError):
    """An argument does not have the form that it must have."""


class BadNumber(BadForm):
    """The argument of this name is no number that may be passed."""

    def __init__(self, name):
        self.name = name


class BadWeb(BadForm):
    """The pair x, y is no clash of a web; both are None if it is no pair."""

    def __init__(self, x, y):
        self.x = x
        self.y = y


class BadThing(BadForm):
    """This is no thing that may be passed."""

    def __init__(self, thing):
        self.thing = thing


class BadPart(BadForm):
    """At this place of a set of things stands no thing, or one that stood earlier."""

    def __init__(self, place):
        self.place = place


class BadOrder(BadForm):
    """At this place of a row stands no thing that may follow, or the row ends there too early."""

    def __init__(self, place):
        self.place = place


class BadNeeds(BadForm):
    """At this place of a row of needs stands no need, or only one of needs and things is left."""

    def __init__(self, place):
        self.place = place


class BadBooking(BadForm):
    """The room of this thing cannot be its room in a booking."""

    def __init__(self, thing):
        self.thing = thing


class BadNotes(BadForm):
    """What the notes tell of this thing cannot be told of it."""

    def __init__(self, thing):
        self.thing = thing


class BadRules(BadForm):
    """At this place of a row of rules stands no rule, or one against those ahead of it."""

    def __init__(self, place):
        self.place = place


class BadText(BadForm):
    """This line cannot be read."""

    def __init__(self, bad_line):
        self.bad_line = bad_line


class BadDeed(BadForm):
    """There is no deed or question of this name with so many arguments."""

    def __init__(self, name):
        self.name = name


class UnmetNeed(OrdersError):
    """The arguments have the right form, but not what the call needs of them."""


class NotKnot(UnmetNeed):
    """The set is no knot: x and y are a gap."""

    def __init__(self, x, y):
        self.x = x
        self.y = y


class NotLot(UnmetNeed):
    """The set is no lot: x and y clash."""

    def __init__(self, x, y):
        self.x = x
        self.y = y


class NotRight(UnmetNeed):
    """The order is not right: this row is bad."""

    def __init__(self, row):
        self.row = row


class NotTwofold(UnmetNeed):
    """The order is not twofold: this row tells it."""

    def __init__(self, row):
        self.row = row


class NotSettled(UnmetNeed):
    """The booking is not settled: the thing clashes with no thing in the room, which is below its own."""

    def __init__(self, thing, room):
        self.thing = thing
        self.room = room


class NoPlace(UnmetNeed):
    """There is no place: these two rows forbid all of them."""

    def __init__(self, floor_row, roof_row):
        self.floor_row = floor_row
        self.roof_row = roof_row


class NoOrder(UnmetNeed):
    """There is no such order."""


class NoneSuch(UnmetNeed):
    """There is nothing that fits the argument of this name."""

    def __init__(self, name):
        self.name = name


class TooMany(OrdersError):
    """There are more results, or more to look at, than the limit."""

    def __init__(self, limit):
        self.limit = limit
