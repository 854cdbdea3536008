"""Orders of webs."""

from perfectorders.amounts import check_place, check_thing, check_things, first_unfit, is_int, is_thing
from perfectorders.errors import BadNumber, BadOrder
from perfectorders.joins import beside, first_numbers, joined, product, put_in


def checked_row_of(things, row):
    """Return the row, which must hold each of these things just once, as a tuple."""
    place = first_unfit(things, row)
    if place is not None:
        raise BadOrder(place)
    if len(row) < len(things):
        raise BadOrder(len(row))
    return tuple(row)


def checked_row(many, row):
    """Return the row of the things 0 to many - 1 as a tuple."""
    return checked_row_of(tuple(range(many)), row)


def places_in(row):
    """Return for each thing its place in the row, a tuple."""
    places = [0] * len(row)
    for place, thing in enumerate(row):
        places[thing] = place
    return tuple(places)


class Order:
    """An order of a web: a row of all its things."""

    LETTERS = "FTCD"

    def __init__(self, web, row):
        self.web = web
        self.row = checked_row(web.many, row)
        self.places = places_in(self.row)

    def ahead(self, x, y):
        """Tell whether x stands earlier than y."""
        check_thing(self.web.many, x)
        check_thing(self.web.many, y)
        return self.places[x] < self.places[y]

    def ahead_of(self, x):
        """Return the things ahead of x that clash with it, a tuple in their order."""
        check_thing(self.web.many, x)
        return tuple([thing for thing in self.row[:self.places[x]] if self.web.clash(thing, x)])

    def lead(self):
        """Return for each clash the pair (the thing ahead, the thing behind), an ascending tuple."""
        pairs = [(x, y) if self.ahead(x, y) else (y, x) for x, y in self.web.clashes]
        return tuple(sorted(pairs))

    def part(self, things):
        """Return the Order of the part, on the part as a Web of its own."""
        kept = check_things(self.web.many, things)
        return Order(self.web.part(kept), [kept.index(thing) for thing in self.row if thing in kept])

    def on(self, web):
        """Return the Order of another web with the same row."""
        if web.many != self.web.many:
            raise BadNumber("web")
        return Order(web, self.row)

    def moved(self, x, place):
        """Return the Order in which x stands at the place, and the others keep their sequence."""
        check_thing(self.web.many, x)
        check_place(self.web.many, place)
        others = [thing for thing in self.row if thing != x]
        return Order(self.web, [*others[:place], x, *others[place:]])

    def __invert__(self):
        return Order(self.web, self.row[::-1])

    def __eq__(self, other):
        return isinstance(other, Order) and self.web == other.web and self.row == other.row

    def __len__(self):
        return len(self.row)

    def __getitem__(self, at):
        check_place(self.web.many, at)
        return self.row[at]

    def __contains__(self, x):
        return is_thing(self.web.many, x)

    def __iter__(self):
        return iter(self.row)

    @classmethod
    def plain(cls, web):
        """Return the Order 0, 1, 2, and so on."""
        return cls(web, tuple(range(web.many)))


def order_by(web, numbers):
    """Return the Order by ascending numbers, things with equal numbers ascending."""
    if len(numbers) != web.many or any([not is_int(number) for number in numbers]):
        raise BadNumber("numbers")
    pairs = sorted([(numbers[thing], thing) for thing in range(web.many)])
    return Order(web, [thing for _, thing in pairs])


def same_lead(order, other):
    """Tell whether both orders have equal webs and equal leads."""
    return order.web == other.web and order.lead() == other.lead()


def mixed_row(orders, mixing):
    """Return the row that takes, place by place, the next thing of the order that the mixing names."""
    firsts = first_numbers([order.web for order in orders])
    taken = [0] * len(orders)
    row = []
    for place, number in enumerate(mixing):
        if not is_thing(len(orders), number) or taken[number] == len(orders[number]):
            raise BadOrder(place)
        row.append(firsts[number] + orders[number].row[taken[number]])
        taken[number] = taken[number] + 1
    return row


def joined_order(orders, mixing, clashing=False):
    """Return the mixed Order on the webs of the orders beside one another, or joined."""
    if len(orders) == 0:
        raise BadNumber("orders")
    # A mixing that is too short is told by Order: the row is then as short as the mixing.
    row = mixed_row(orders, mixing)
    webs = [order.web for order in orders]
    if clashing:
        return Order(joined(*webs), row)
    return Order(beside(*webs), row)


def put_in_order(outer, orders):
    """Return the Order on the web put in: for each outer thing in its order the things of its web in theirs."""
    if len(orders) != len(outer):
        raise BadNumber("orders")
    webs = [order.web for order in orders]
    firsts = first_numbers(webs)
    row = [firsts[v] + thing for v in outer.row for thing in orders[v].row]
    return Order(put_in(outer.web, webs), row)


def product_order(order, other):
    """Return the Order of the product: by the first thing of each pair, then by the second one."""
    size = other.web.many
    row = [x * size + y for x in order.row for y in other.row]
    return Order(product(order.web, other.web), row)
