"""The names of deeds and questions of a desk, and how many arguments each of them has."""

from perfectorders.errors import BadDeed

DEEDS = {
    "come": (1, 4), "go": (1, 1), "move": (2, 2), "need": (2, 2), "start": (2, 2), "settle": (3, 3),
    "mark": (1, 1), "unmark": (1, 1), "undo": (0, 1),
}

QUESTIONS = {
    "order_now": (0, 0), "needs_now": (0, 0), "starts_now": (0, 0), "strangers_now": (0, 0), "standing": (0, 0),
    "deeds": (0, 0), "room_count_now": (0, 0), "is_right_now": (0, 0), "is_safe_now": (0, 0), "ends_now": (0, 0),
    "price_now": (0, 0), "core_now": (0, 0), "lot": (0, 1), "places_now": (1, 2), "places_safe": (1, 2),
}

# The place, the maybes and the need of a thing that comes, where they are not told.
COME_REST = (None, (), 1)


def is_among(ends, arguments):
    """Tell whether there are as many arguments as the pair of ends lets."""
    least, most = ends
    return least <= len(arguments) <= most


def check_deed(name, arguments):
    """Check that there is a deed of this name with so many arguments."""
    if not isinstance(name, str) or name not in DEEDS or not is_among(DEEDS[name], arguments):
        raise BadDeed(name)


def check_question(name, arguments):
    """Check that there is a question of this name with so many arguments."""
    if not isinstance(name, str) or name not in QUESTIONS or not is_among(QUESTIONS[name], arguments):
        raise BadDeed(name)


def check_deeds(deeds):
    """Check that there is a deed of each name with so many arguments."""
    for name, arguments in deeds:
        check_deed(name, arguments)


def come_arguments(arguments):
    """Return the four arguments of a thing that comes, a tuple."""
    return (*arguments, *COME_REST[len(arguments) - 1:])
