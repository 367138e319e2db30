"""Weavings of worlds, done in a hall."""

from dozehall.hall import Hall
from dozehall.rows import counted, is_bed
from dozehall.weaves import run


def replay(world, moves):
    """A hall in which the moves were done, each behind a tick."""
    states = run(world, moves)
    hall = Hall({room: world.numbers[world.seats[room]] for room in world.seats})
    for guest, rank in enumerate(world.ranks):
        if rank != 0:
            hall.rank(guest, rank)
    for place, move in enumerate(moves):
        hall.tick()
        word, guest = move
        if word == "nudge":
            hall.nudge(guest)
        if word == "step":
            do_bed_or_row(hall, world, states[place], moves, place)
    # For late ends nothing is left to do: the tick ahead of them ended the sleep.
    return hall


def do_bed_or_row(hall, world, state, moves, place):
    """Does the step at that place of the moves."""
    guest = moves[place][1]
    row = world.row_at(state, guest)
    if is_bed(row):
        still = row[2] if row[0] == "wait" else state[2][guest]
        hall.sleep(guest, row[1], still, until=late_time(moves, place))
    else:
        do_row(hall, row)


def do_row(hall, row):
    """Does a row at which nobody lies down."""
    if row[0] == "wake":
        hall.wake(row[1], most=row[2])
    elif row[0] == "move":
        hall.move(row[1], row[2], wakes=row[3], moves=row[4])
    elif puts_number(row, hall.number(row[1])):
        hall.put(row[1], counted(row, hall.number(row[1]), 0)[0])


def puts_number(row, number):
    """Whether a row that finds that number gives its room one."""
    if row[0] == "cas":
        return number == row[2]
    if row[0] == "take":
        return number > 0
    return row[0] in ("set", "add", "swap")


def late_time(moves, place):
    """The time at which the guest that moves at that place is late, if that is its next move; else None."""
    guest = moves[place][1]
    for at in range(place + 1, len(moves)):
        if moves[at][1] == guest:
            # With one tick ahead of each move, the time at a move is one more than its place.
            return at + 1 if moves[at][0] == "late" else None
    return None
