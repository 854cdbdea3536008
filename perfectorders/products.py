"""Joint rooms, which the pairs of a product take."""

from perfectorders.amounts import check_number


def joint_room(room, other):
    """Return the joint room of both rooms."""
    check_number(room, "room", 1)
    check_number(other, "other", 1)
    return 1 + ((room - 1) ^ (other - 1))


def joint_count(many, other):
    """Return the greatest joint room of a room from 1 to many and one from 1 to other."""
    check_number(many, "many")
    check_number(other, "other")
    if many == 0 or other == 0:
        return 0
    first = many - 1
    second = other - 1
    # Where both bounds have a 1 in the same place, one of the two numbers may have 0 there
    # and anything below, so that all places below can be made unlike.
    free = (1 << (first & second).bit_length()) - 1
    return 1 + (first | second | free)
