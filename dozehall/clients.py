"""Books of the names that clients use, and the rule that clients keep."""

from dozehall.errors import BadClient, NoName
from dozehall.names import check_once

# What the names behind the first text of a client's row are names of. Behind them stands a number, if anything.
NAMED = {
    "lock": ("lock",),
    "free": ("lock",),
    "rest": ("cond",),
    "await": ("cond", "cell"),
    "try": ("cond", "cell"),
    "call": ("cond",),
    "all": ("cond",),
    "down": ("count",),
    "up": ("count",),
    "set": ("cell",),
    "add": ("cell",),
}


class Book:
    """The names that clients use: locks, conditions with their locks, counts and cells with their numbers."""

    def __init__(self, *, locks=(), conds=(), counts=(), cells=()):
        names = list(locks)
        for part in (conds, counts, cells):
            names.extend([name for name, told in part])
        check_once(names)
        self.locks = list(locks)
        self.conds = dict(conds)
        self.counts = dict(counts)
        self.cells = dict(cells)
        self.check_locks()

    def lock_of(self, cond):
        """The lock of a condition."""
        return self.conds[cond]

    def check_locks(self):
        """Refuses the first condition whose lock is none of the book's."""
        for cond in self.conds:
            if self.conds[cond] not in self.locks:
                raise NoName(self.conds[cond])

    def tells(self, name, kind):
        """Whether the name is told as one of that kind."""
        parts = {"lock": self.locks, "cond": self.conds, "count": self.counts, "cell": self.cells}
        return name in parts[kind]


def lock_at(book, row):
    """The lock that a client's row has to do with, its own or its condition's; None where there is none."""
    kind = NAMED[row[0]][0]
    if kind == "lock":
        return row[1]
    if kind == "cond":
        return book.lock_of(row[1])
    return None


def held_along(book, guest, client):
    """The locks that a client holds at each of its rows, sorted; one that breaks the rule is refused."""
    held = []
    along = []
    for place, row in enumerate(client):
        if not keeps_rule(book, row, held):
            raise BadClient((guest, place))
        along.append(tuple(sorted(held)))
        held = held_behind(row, held)
    if held:
        raise BadClient((guest, len(client)))
    return along


def keeps_rule(book, row, held):
    """Whether a client that holds these locks may do that row."""
    if not all(book.tells(name, kind) for name, kind in zip(row[1:], NAMED[row[0]])):
        return False
    lock = lock_at(book, row)
    if row[0] == "lock":
        return lock not in held
    return lock is None or lock in held


def held_behind(row, held):
    """The locks that are held behind a row at which these were."""
    if row[0] == "lock":
        return held + [row[1]]
    if row[0] == "free":
        return [lock for lock in held if lock != row[1]]
    return held
