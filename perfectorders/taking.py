"""Taking things off a web, and the core that is left."""

from perfectorders.amounts import check_part, check_things, is_int
from perfectorders.choices import right_order
from perfectorders.errors import BadNumber, BadThing, NoneSuch
from perfectorders.masks import mask_of, things_in, whole_mask
from perfectorders.orders import Order, checked_row_of
from perfectorders.quads import ends_of, middles_of, rows_of_four


def row_masks(web):
    """Return for each row of four the masks of its things, its ends and its middles, a list of tuples."""
    return [(mask_of((a, b, c, d)), mask_of((a, d)), mask_of((b, c))) for a, b, c, d in rows_of_four(web)]


def held_masks(rows, part):
    """Return the pair of the masks of the things that are ends, and that are middles, within the part."""
    ends = 0
    middles = 0
    for whole, outer, inner in rows:
        if whole & ~part == 0:
            ends = ends | outer
            middles = middles | inner
    return (ends, middles)


def no_ends(web, part=None):
    """Return the things of the part that are an end of no row of four within it, ascending."""
    whole = mask_of(check_part(web.many, part))
    ends, _ = held_masks(row_masks(web), whole)
    return things_in(whole & ~ends)


def no_middles(web, part=None):
    """Return the things of the part that are a middle of no row of four within it, ascending."""
    whole = mask_of(check_part(web.many, part))
    _, middles = held_masks(row_masks(web), whole)
    return things_in(whole & ~middles)


class Taking:
    """Things of a web are taken off one by one and laid in front or at the back."""

    def __init__(self, web):
        self.web = web
        self.front = ()
        self.back = ()
        self.takes = ()

    @property
    def things_left(self):
        """The things that are not taken, ascending."""
        return tuple([thing for thing in range(self.web.many) if thing not in self.front + self.back])

    @property
    def takes_row(self):
        """The tuples (thing, side) in the order taken."""
        return self.takes

    def sides_for(self, thing):
        """Return the sides on which the thing may be laid, the front first, a list."""
        left = self.things_left
        sides = []
        if thing in no_ends(self.web, left):
            sides.append("front")
        if thing in no_middles(self.web, left):
            sides.append("back")
        return sides

    def take(self, thing, side=None):
        """Take the thing off, and return the side on which it is laid."""
        if not is_int(thing) or thing not in self.things_left:
            raise BadThing(thing)
        if side not in (None, "front", "back"):
            raise BadNumber("side")
        fitting = [told for told in self.sides_for(thing) if side is None or told == side]
        if not fitting:
            raise NoneSuch("take")
        if fitting[0] == "front":
            self.front = self.front + (thing,)
        else:
            self.back = self.back + (thing,)
        self.takes = self.takes + ((thing, fitting[0]),)
        return fitting[0]

    def takable(self):
        """Return the things that may be taken, ascending."""
        left = self.things_left
        fitting = no_ends(self.web, left) + no_middles(self.web, left)
        return [thing for thing in left if thing in fitting]

    def take_all(self):
        """Take the least thing that may be taken as long as there is one, and return the things left."""
        fitting = self.takable()
        while fitting:
            self.take(fitting[0])
            fitting = self.takable()
        return self.things_left


def core(web):
    """Return the things that are left when nothing can be taken any more, ascending."""
    rows = row_masks(web)
    part = whole_mask(web.many)
    ends, middles = held_masks(rows, part)
    while ends & middles != part:
        part = ends & middles
        ends, middles = held_masks(rows, part)
    return things_in(part)


def is_core_like(web, things):
    """Tell whether each of the things is an end and a middle of rows of four among them."""
    part = mask_of(check_things(web.many, things))
    ends, middles = held_masks(row_masks(web), part)
    return ends & middles == part


def core_paper(web):
    """Return for each thing of the core a row within it of which it is an end, and one of which it is a middle."""
    left = core(web)
    return tuple([(thing, ends_of(web, thing, left)[0], middles_of(web, thing, left)[0]) for thing in left])


def takes_order(taking, middle=None):
    """Return the Order of the taking, with the things left in the order of the row `middle`."""
    row = taking.things_left
    if middle is not None:
        row = checked_row_of(row, middle)
    return Order(taking.web, taking.front + row + taking.back[::-1])


def order_by_core(web):
    """Return the Order of a taking that leaves the core, with the least right order of the core."""
    taking = Taking(web)
    left = taking.take_all()
    order = right_order(web.part(left))
    return takes_order(taking, [left[number] for number in order.row])
