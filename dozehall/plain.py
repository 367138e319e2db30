"""The plain meaning of clients, which knows no rooms: who holds what, and how each guest is at its row."""

from dozehall.clients import lock_at
from dozehall.lines import join_line

# Client's rows at which a guest rests at a condition.
RESTS = ("rest", "await", "try")


class Walker:
    """At which row of its client a guest is, and how; its ticket is of use while it is resting."""

    def __init__(self, client):
        self.client = client
        self.at = 0
        self.how = "fresh"
        self.ticket = 0

    def is_at(self, words, hows):
        """Whether the guest is at a row with one of these first texts, in one of these ways."""
        if self.at == len(self.client):
            return False
        return self.here()[0] in words and self.how in hows

    def here(self):
        """The row at which the guest, not at its end, is."""
        return self.client[self.at]

    def go_on(self):
        """The guest is fresh at the next row."""
        self.at += 1
        self.how = "fresh"


class Meaning:
    """All that the plain meaning knows. Locks that nobody holds have no keeper."""

    def __init__(self, built):
        self.book = built.book
        self.ranks = built.world.ranks
        self.nudges = built.world.nudges
        self.walkers = {guest: Walker(client) for guest, client in enumerate(built.clients)}
        self.keepers = {}
        self.calls = {cond: 0 for cond in self.book.conds}
        self.lines = {cond: [] for cond in self.book.conds}
        self.numbers = dict(self.book.counts)
        self.numbers.update(self.book.cells)

    def is_about(self, event, words, hows):
        """Whether the event's guest is so at such a row, and the row's first name is the event's."""
        walker = self.walkers[event[1]]
        return walker.is_at(words, hows) and walker.here()[1] == event[2]

    def lock_here(self, guest):
        """The lock of the guest's row, or of its condition."""
        return lock_at(self.book, self.walkers[guest].here())

    def holds_lock(self, guest):
        """Whether the guest holds the lock of its row."""
        return self.keepers.get(self.lock_here(guest)) == guest

    def leave_line(self, guest, cond):
        """The guest is not in the condition's line from here on."""
        self.lines[cond] = [other for other in self.lines[cond] if other != guest]


# Each rule tells whether it lets an event by; where it does, what is known is changed as it tells.


def let_takes(meaning, event):
    """A lock that nobody holds is taken, for the first time or behind a rest."""
    guest, lock = event[1:]
    walker = meaning.walkers[guest]
    if not walker.is_at(("lock",), ("fresh",)) and not walker.is_at(RESTS, ("back", "moved", "late")):
        return False
    if lock != meaning.lock_here(guest) or lock in meaning.keepers:
        return False
    meaning.keepers[lock] = guest
    if walker.is_at(("await", "try"), ("back", "moved")):
        # It rested because of a number, so it looks at that again.
        walker.how = "fresh"
    else:
        walker.go_on()
    return True


def let_frees(meaning, event):
    """A lock is let go for good."""
    guest, lock = event[1:]
    if not meaning.is_about(event, ("free",), ("fresh",)) or not meaning.holds_lock(guest):
        return False
    del meaning.keepers[lock]
    meaning.walkers[guest].go_on()
    return True


def let_sees(meaning, event):
    """A cell's number is looked at."""
    guest, cell, number = event[1:]
    walker = meaning.walkers[guest]
    if not walker.is_at(("await", "try"), ("fresh",)) or walker.here()[2] != cell:
        return False
    if number != meaning.numbers[cell]:
        return False
    if number == walker.here()[3]:
        walker.how = "seen"
    else:
        walker.go_on()
    return True


def let_rests(meaning, event):
    """The lock is let go, to rest."""
    guest, cond = event[1:]
    ready = meaning.is_about(event, ("rest",), ("fresh",)) or meaning.is_about(event, ("await", "try"), ("seen",))
    if not ready or not meaning.holds_lock(guest):
        return False
    del meaning.keepers[meaning.lock_here(guest)]
    walker = meaning.walkers[guest]
    walker.how = "resting"
    walker.ticket = meaning.calls[cond]
    return True


def let_sleeps(meaning, event):
    """Nobody called since the lock was let go, so the guest falls asleep."""
    guest, cond = event[1:]
    walker = meaning.walkers[guest]
    if not meaning.is_about(event, RESTS, ("resting",)) or meaning.calls[cond] != walker.ticket:
        return False
    walker.how = "asleep"
    join_line(meaning.lines[cond], guest, meaning.ranks)
    return True


def let_back(meaning, event):
    """Somebody called since the lock was let go, so the guest does not fall asleep."""
    guest, cond = event[1:]
    walker = meaning.walkers[guest]
    if not meaning.is_about(event, RESTS, ("resting",)) or meaning.calls[cond] == walker.ticket:
        return False
    walker.how = "back"
    return True


def let_calls(meaning, event):
    """There is one call more."""
    guest, cond = event[1:]
    if not meaning.is_about(event, ("call", "all"), ("fresh",)) or not meaning.holds_lock(guest):
        return False
    meaning.calls[cond] += 1
    meaning.walkers[guest].how = "calling"
    return True


def let_rouses(meaning, event):
    """The first of the line is back; behind an all the others are moved."""
    guest, cond, woken, moved = event[1:]
    if not meaning.is_about(event, ("call", "all"), ("calling",)):
        return False
    walker = meaning.walkers[guest]
    line = meaning.lines[cond]
    many = len(line) if walker.here()[0] == "all" else 1
    if woken != tuple(line[:1]) or moved != tuple(line[1:many]):
        return False
    for other in woken:
        meaning.walkers[other].how = "back"
    for other in moved:
        meaning.walkers[other].how = "moved"
    meaning.lines[cond] = line[many:]
    walker.go_on()
    return True


def let_late(meaning, event):
    """The rest of a try took too long."""
    guest, cond = event[1:]
    if not meaning.is_about(event, ("try",), ("asleep", "moved")):
        return False
    meaning.leave_line(guest, cond)
    meaning.walkers[guest].how = "late"
    return True


def let_nudged(meaning, event):
    """A rest ended though nobody called."""
    guest, cond = event[1:]
    if not meaning.nudges or not meaning.is_about(event, RESTS, ("asleep", "moved")):
        return False
    meaning.leave_line(guest, cond)
    meaning.walkers[guest].how = "back"
    return True


def let_downs(meaning, event):
    """One is taken from a count."""
    guest, count = event[1:]
    if not meaning.is_about(event, ("down",), ("fresh",)) or meaning.numbers[count] <= 0:
        return False
    meaning.numbers[count] -= 1
    meaning.walkers[guest].go_on()
    return True


def let_ups(meaning, event):
    """One is added to a count."""
    guest, count = event[1:]
    if not meaning.is_about(event, ("up",), ("fresh",)):
        return False
    meaning.numbers[count] += 1
    meaning.walkers[guest].go_on()
    return True


def let_sets(meaning, event):
    """A cell has another number."""
    guest, cell, number = event[1:]
    if not meaning.is_about(event, ("set", "add"), ("fresh",)):
        return False
    walker = meaning.walkers[guest]
    word, name, told = walker.here()
    if number != (told if word == "set" else meaning.numbers[cell] + told):
        return False
    meaning.numbers[cell] = number
    walker.go_on()
    return True


RULES = {
    "takes": let_takes,
    "frees": let_frees,
    "sees": let_sees,
    "rests": let_rests,
    "sleeps": let_sleeps,
    "back": let_back,
    "calls": let_calls,
    "rouses": let_rouses,
    "late": let_late,
    "nudged": let_nudged,
    "downs": let_downs,
    "ups": let_ups,
    "sets": let_sets,
}


def let_by(meaning, event):
    """Lets the event by, if its rule does; whether it was."""
    if event[0] not in RULES or event[1] not in meaning.walkers:
        return False
    rule = RULES[event[0]]
    return rule(meaning, event)


def first_untrue(built, events):
    """The place of the first event that is not let by, or None."""
    meaning = Meaning(built)
    for place, event in enumerate(events):
        if not let_by(meaning, event):
            return place
    return None


def holders(built, events):
    """The locks that are held behind these events, none of them untrue, each with its guest, sorted."""
    meaning = Meaning(built)
    for event in events:
        let_by(meaning, event)
    return sorted([(lock, guest) for lock, guest in meaning.keepers.items()])
