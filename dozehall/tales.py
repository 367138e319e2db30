"""Tales: what a weaving of a built world did, told by events."""

from dozehall.weaves import run


class Step:
    """A step of a guest: its row, the client's row to which that belongs, and what the step found and left.

    Numbers and lines are those of the row's room.
    """

    def __init__(self, built, guest, state, then):
        self.guest = guest
        self.row = built.world.row_at(state, guest)
        self.source = built.client_row(guest, state[1][guest])
        seat = built.world.seats[self.row[1]]
        self.found = state[0][seat]
        self.left = then[0][seat]
        self.line_found = state[3][seat]
        self.line_left = then[3][seat]


def tell_taking(step):
    """A cas from 0 or a swap to 2: the lock is taken where it was free."""
    if step.found != 0:
        return None
    return "takes", step.guest, step.row[1]


def tell_swap(step):
    """A swap to 2 may take the lock, one to 0 lets it go."""
    if step.row[2] == 2:
        return tell_taking(step)
    word = "frees" if step.source[0] == "free" else "rests"
    return word, step.guest, step.source[1]


def tell_if(step):
    """A look at a cell."""
    return "sees", step.guest, step.row[1], step.found


def tell_still(step):
    """A rest that begins, or that is over before it began."""
    word = "sleeps" if step.guest in step.line_left else "back"
    return word, step.guest, step.row[1]


def tell_rouse(step):
    """The wake or move of a call or an all; wakes of locks and counts are not told."""
    word = step.source[0]
    if word not in ("call", "all"):
        return None
    moved = step.line_found[1:] if word == "all" else ()
    return "rouses", step.guest, step.row[1], step.line_found[:1], moved


def tell_take(step):
    """A take from a count."""
    if step.found <= 0:
        return None
    return "downs", step.guest, step.row[1]


def tell_add(step):
    """An add to a condition, a count or a cell."""
    word = step.source[0]
    if word == "add":
        return tell_cell(step)
    told = "ups" if word == "up" else "calls"
    return told, step.guest, step.row[1]


def tell_cell(step):
    """A cell's new number."""
    return "sets", step.guest, step.row[1], step.left


# How a step is told, by the first text of its row; steps of other rows are not.
TELLERS = {
    "cas": tell_taking,
    "swap": tell_swap,
    "if": tell_if,
    "still": tell_still,
    "wake": tell_rouse,
    "move": tell_rouse,
    "take": tell_take,
    "add": tell_add,
    "set": tell_cell,
}


def tale(built, moves):
    """The events of a weaving, in its order."""
    states = run(built.world, moves)
    events = []
    for move, state, then in zip(moves, states, states[1:]):
        event = event_of(built, move, state, then)
        if event is not None:
            events.append(event)
    return events


def event_of(built, move, state, then):
    """The event of a move from one state to the next, or None where it has none."""
    word, guest = move
    row = built.world.row_at(state, guest)
    if word == "step":
        return step_event(Step(built, guest, state, then), row[0])
    # Who lies at a wait row waits for a lock or a count; only rests end with an event.
    if row[0] != "still":
        return None
    told = "late" if word == "late" else "nudged"
    return told, guest, row[1]


def step_event(step, word):
    """The event of a step at a row with that first text, or None."""
    if word not in TELLERS:
        return None
    tell = TELLERS[word]
    return tell(step)
