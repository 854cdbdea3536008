"""Runs of rooms: tuples (first, last) that stand for all rooms from first to last.

Rooms are never counted one by one, so that the work does not grow with their number.
"""


def runs_of(rooms):
    """Return the ascending rooms as ascending runs."""
    runs = []
    for room in rooms:
        if runs and runs[-1][1] == room - 1:
            runs[-1] = (runs[-1][0], room)
        else:
            runs.append((room, room))
    return tuple(runs)


def least_rooms(taken, many, start=1):
    """Return as ascending runs the least `many` rooms from the start on that lie in none of the runs `taken`.

    The runs `taken` may overlap.
    """
    found = []
    room = start
    left = many
    for first, last in sorted(taken):
        count = min(left, first - room)
        if count > 0:
            found.append((room, room + count - 1))
            left = left - count
        room = max(room, last + 1)
    if left > 0:
        found.append((room, room + left - 1))
    return tuple(found)


def rooms_below(runs, room):
    """Return how many rooms of the runs lie below the room."""
    return sum([max(0, min(last + 1, room) - first) for first, last in runs])


def holds_room(runs, room):
    """Tell whether the room lies in one of the runs."""
    return any([first <= room <= last for first, last in runs])


def lot_of_runs(runs, room):
    """Return the things that hold the room, an ascending tuple; `runs` has the runs of each thing."""
    return tuple([thing for thing in range(len(runs)) if holds_room(runs[thing], room)])


def spans_of(runs):
    """Return the spans of a book; `runs` has the runs of each thing."""
    edges = set()
    # Room 1 begins a span even if nothing holds it.
    edges.add(1)
    for held in runs:
        for first, last in held:
            edges.add(first)
            edges.add(last + 1)
    # Between two edges the room lot stays the same, and at each edge it changes.
    rooms = sorted(edges)
    return tuple([(after - room, lot_of_runs(runs, room)) for room, after in zip(rooms, rooms[1:])])
