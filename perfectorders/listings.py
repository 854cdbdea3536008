"""Lines of text about desks, books and rows."""

from perfectorders.amounts import check_thing


def words_of(numbers):
    """Return the numbers with single spaces between them."""
    return " ".join([str(number) for number in numbers])


def maybes_with(desk, thing):
    """Return the things with which the thing is a maybe, ascending."""
    pairs = [pair for pair in desk.held.maybe if thing in pair]
    return sorted([x + y - thing for x, y in pairs])


def parts_of(desk, thing):
    """Return the parts of the line of a thing that stands, a list of texts."""
    parts = [f"place {desk.order_now.index(thing)}"]
    if thing in desk.strangers_now:
        parts.append("stranger")
    parts.extend([f"need {desk.needs_now[thing]}", f"start {desk.starts_now[thing]}"])
    near = desk.web_now.near(thing)
    if near:
        parts.append(f"near {words_of(near)}")
    maybes = maybes_with(desk, thing)
    if maybes:
        parts.append(f"maybe {words_of(maybes)}")
    runs = desk.book().rooms_of(thing)
    if runs:
        parts.append("rooms " + " ".join([f"{first}-{last}" for first, last in runs]))
    return parts


def line_of(desk, thing):
    """Return the line of the thing."""
    check_thing(desk.held.many, thing)
    if thing not in desk.order_now:
        return f"thing {thing}: gone"
    return f"thing {thing}: " + ", ".join(parts_of(desk, thing))


def head_of(desk):
    """Return the first line of a listing."""
    state = desk.now.state
    right = "right" if state.bad_row is None else f"row {words_of(state.bad_row)}"
    safe = "safe" if desk.is_safe_now() else "unsafe"
    return f"{len(desk.order_now)} things, {desk.room_count_now()} rooms, {right}, {safe}"


def listing(desk):
    """Return the lines about the whole desk, a tuple."""
    lines = [line_of(desk, thing) for thing in range(desk.held.many)]
    return (head_of(desk), *lines, f"deeds {desk.standing}")


def span_table(book):
    """Return a line for each span of the book, a tuple."""
    runs = []
    room = 1
    for count, _ in book.spans:
        runs.append(f"{room}-{room + count - 1}")
        room = room + count
    width = max([len(run) for run in runs], default=0)
    lots = [words_of(lot) if lot else "none" for _, lot in book.spans]
    return tuple([f"{run.rjust(width)}: {lot}" for run, lot in zip(runs, lots)])


def row_text(row):
    """Return the entries of the row with " < " between any two."""
    return " < ".join([str(number) for number in row])
