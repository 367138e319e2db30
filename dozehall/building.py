"""Clients built into plans: each of their rows becomes a few rows over rooms."""

from dozehall.clients import held_along, lock_at
from dozehall.kinds import EVERY
from dozehall.worlds import World

# At which of its rows, counted from 0, a client's row has let its lock go till the next one begins.
LETS_GO = {"free": 1, "rest": 2, "await": 3, "try": 3}


def lock_rows(row, lock, p):
    """The rows of a lock, the first of them at p."""
    return [("cas", lock, 0, 1, p + 3), ("swap", lock, 2, 0, p + 3), ("wait", lock, 2, p + 1, p + 1, -1)]


def free_rows(row, lock, p):
    """The rows of a free."""
    return [("swap", lock, 0, 1, p + 2), ("wake", lock, 1)]


def rest_rows(row, lock, p):
    """The rows of a rest."""
    cond = row[1]
    return [
        ("load", cond),
        ("swap", lock, 0, 1, p + 3),
        ("wake", lock, 1),
        ("still", cond, p + 4, p + 4, -1),
        ("swap", lock, 2, 0, p + 6),
        ("wait", lock, 2, p + 4, p + 4, -1),
    ]


def await_rows(row, lock, p):
    """The rows of an await."""
    return looking_rows(row, lock, p, p + 7, -1)


def try_rows(row, lock, p):
    """The rows of a try; its last two take the lock again where it was late."""
    again = [("swap", lock, 2, 0, p + 9), ("wait", lock, 2, p + 7, p + 7, -1)]
    return looking_rows(row, lock, p, p + 9, p + 7) + again


def looking_rows(row, lock, p, done, late):
    """The rows that rest as long as a cell has a number; then they lead to `done`, a late rest to `late`."""
    cond, cell, number = row[1:]
    return [
        ("if", cell, number, done),
        ("load", cond),
        ("swap", lock, 0, 1, p + 4),
        ("wake", lock, 1),
        ("still", cond, p + 5, p + 5, late),
        ("swap", lock, 2, 0, p),
        ("wait", lock, 2, p + 5, p + 5, -1),
    ]


def call_rows(row, lock, p):
    """The rows of a call."""
    return [("add", row[1], 1, 0, p + 1), ("wake", row[1], 1)]


def all_rows(row, lock, p):
    """The rows of an all; but for the first, whom it calls queue up for the lock without waking."""
    return [("add", row[1], 1, 0, p + 1), ("move", row[1], lock, 1, EVERY)]


def down_rows(row, lock, p):
    """The rows of a down."""
    return [("take", row[1], p + 2), ("wait", row[1], 0, p, p, -1)]


def up_rows(row, lock, p):
    """The rows of an up."""
    return [("add", row[1], 1, 0, p + 1), ("wake", row[1], 1)]


def set_rows(row, lock, p):
    """The row of a set."""
    return [("set", row[1], row[2])]


def add_rows(row, lock, p):
    """The row of an add."""
    return [("add", row[1], row[2], 0, p + 1)]


ROWS = {
    "lock": lock_rows,
    "free": free_rows,
    "rest": rest_rows,
    "await": await_rows,
    "try": try_rows,
    "call": call_rows,
    "all": all_rows,
    "down": down_rows,
    "up": up_rows,
    "set": set_rows,
    "add": add_rows,
}


class Plan:
    """A client's plan: its rows, and for each place, its end too, the locks held and the spot in the client."""

    def __init__(self, book, guest, client):
        self.rows = []
        self.marks = []
        self.spots = []
        for at, held in enumerate(held_along(book, guest, client)):
            self.build(book, client[at], at, held)
        self.marks.append(())
        self.spots.append((len(client), 0))

    def build(self, book, row, at, held):
        """Puts the rows of one client's row, at that place of the client, behind the others."""
        lock = lock_at(book, row)
        make = ROWS[row[0]]
        rows = make(row, lock, len(self.rows))
        self.rows.extend(rows)
        self.marks.extend(marks_along(row[0], lock, held, len(rows)))
        self.spots.extend([(at, within) for within in range(len(rows))])


def marks_along(word, lock, held, many):
    """The locks held at each of the rows of a client's row, as many as told."""
    gone = LETS_GO.get(word, many)
    left = tuple([name for name in held if name != lock])
    return [held if within < gone else left for within in range(many)]


def plan_of(book, client):
    """The rows and the marks of a client's plan."""
    plan = Plan(book, 0, client)
    return plan.rows, plan.marks


class Built:
    """Clients, and the world of their plans."""

    def __init__(self, book, clients, *, ranks=None, nudges=False):
        self.book = book
        self.clients = [list(client) for client in clients]
        built = [Plan(book, guest, client) for guest, client in enumerate(self.clients)]
        self.spots = [plan.spots for plan in built]
        plans = [plan.rows for plan in built]
        marks = [plan.marks for plan in built]
        self.world = World(rooms_of(book), plans, marks=marks, ranks=ranks, nudges=nudges)

    def spot(self, guest, place):
        """The place of the client's row to which a place of its plan belongs, and the place within its rows."""
        return self.spots[guest][place]

    def client_row(self, guest, place):
        """The client's row to which a place of its plan, not the end, belongs."""
        return self.clients[guest][self.spot(guest, place)[0]]


def rooms_of(book):
    """The rooms of the book's names, with the numbers that they have at first."""
    rooms = {name: 0 for name in book.locks + list(book.conds)}
    rooms.update(book.counts)
    rooms.update(book.cells)
    return rooms
