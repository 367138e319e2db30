"""A hall: rooms with numbers, and guests that sleep in their lines."""

from dozehall.errors import Asleep, Awake, BadCount, NoRoom, SameRoom
from dozehall.kinds import ALL, EVERY


class Bed:
    """Where a guest sleeps, and what it keeps for as long as it does.

    `turn` is the last one that it was given, `since` the one that it fell asleep with. No field is assigned
    again, so twins may share a bed.
    """

    def __init__(self, name, until, mask, turn, since):
        self.name = name
        self.until = until
        self.mask = mask
        self.turn = turn
        self.since = since


class Hall:
    """Rooms that are driven deed by deed.

    Lines are not kept but found anew at each look, so that they are in order whatever changed since.
    """

    def __init__(self, rooms):
        self.numbers = dict(rooms)
        self.time = 0
        self.turns = 0
        self.ranks = {}
        self.beds = {}
        self.endings = {}
        self.entries = []

    def put(self, room, number):
        """The room's number is that now."""
        self.check_room(room)
        self.numbers[room] = number
        self.entries.append(("put", room, number))

    def nudge(self, guest):
        """The guest sleeps no more, though nobody woke it."""
        if guest not in self.beds:
            raise Awake(guest)
        self.end_sleeps([guest], "nudged")
        self.entries.append(("nudge", guest))

    def rank(self, guest, rank):
        """The guest's rank is that from now on."""
        self.ranks[guest] = rank
        self.entries.append(("rank", guest, rank))

    def sleep(self, guest, room, still, *, until=None, mask=ALL):
        """The guest lies down if the room's number is still that: `changed`, `past` or `asleep`."""
        self.check_room(room)
        self.check_awake(guest)
        check_mask(mask)
        answer = "changed"
        if self.numbers[room] == still:
            answer = self.lie_down(guest, room, until, mask)
        self.endings[guest] = answer
        self.entries.append(("sleep", guest, room, still, until, mask, answer))
        return answer

    def wake(self, room, *, most=1, mask=ALL):
        """The first guests of the line whose masks meet the mask sleep no more; they are told."""
        self.check_room(room)
        check_count(most)
        check_mask(mask)
        woken = [guest for guest in self.line(room) if self.beds[guest].mask & mask][:most]
        self.end_sleeps(woken, "woken")
        self.entries.append(("wake", room, most, mask, tuple(woken)))
        return woken

    def move(self, room, other, *, still=None, wakes=1, moves=EVERY):
        """Wakes the first of a line and moves the next ones to another line; None where it is not still so."""
        self.check_room(room)
        self.check_room(other)
        if room == other:
            raise SameRoom(room)
        check_count(wakes)
        check_count(moves)
        if still is not None and self.numbers[room] != still:
            self.entries.append(("move", room, other, still, wakes, moves, None))
            return None
        line = self.line(room)
        woken = line[:wakes]
        moved = line[wakes:wakes + moves]
        self.end_sleeps(woken, "woken")
        for guest in moved:
            self.lie_elsewhere(guest, other)
        self.entries.append(("move", room, other, still, wakes, moves, (tuple(woken), tuple(moved))))
        return woken, moved

    def tick(self, by=1):
        """The time grows; those who are late by then sleep no more, and are told."""
        check_count(by)
        self.time += by
        late = [guest for guest in self.beds if self.is_past(self.beds[guest].until)]
        late = sorted(late, key=lambda guest: (self.beds[guest].until, self.beds[guest].since))
        self.end_sleeps(late, "late")
        self.entries.append(("tick", by, tuple(late)))
        return late

    def number(self, room):
        """The room's number."""
        self.check_room(room)
        return self.numbers[room]

    def line(self, room):
        """The guests that sleep in the room's line, in its order."""
        self.check_room(room)
        return self.line_of(room)

    def asleep(self):
        """All guests that sleep, rising."""
        return sorted(self.beds)

    def sleeper(self, guest):
        """The name of the line in which the guest lies, its until and its mask; None where it does not sleep."""
        if guest not in self.beds:
            return None
        bed = self.beds[guest]
        return bed.name, bed.until, bed.mask

    def ending(self, guest):
        """How the last time ended that the guest asked to sleep."""
        return self.endings.get(guest, "new")

    def standing(self, guest):
        """The guest's rank."""
        return self.ranks.get(guest, 0)

    def now(self):
        """The hall's time."""
        return self.time

    def log(self):
        """All deeds that were done, as tuples."""
        return list(self.entries)

    def twin(self):
        """Another hall that is in all as this one is."""
        other = Hall(self.numbers)
        copy_fields(self, other)
        return other

    def __len__(self):
        return len(self.beds)

    def __str__(self):
        return f"at {self.time}: {guests_text(self.asleep())}"

    def check_room(self, room):
        """Refuses a name that is no room's."""
        if room not in self.numbers:
            raise NoRoom(room)

    def check_awake(self, guest):
        """Refuses a guest that sleeps."""
        if guest in self.beds:
            raise Asleep(guest)

    def is_past(self, until):
        """Whether it is too late for a sleep with that until."""
        return until is not None and until <= self.time

    def next_turn(self):
        """A turn greater than all that were given."""
        self.turns += 1
        return self.turns

    def lie_down(self, guest, name, until, mask):
        """The guest lies down in that line, if it is not past its until: `past` or `asleep`."""
        if self.is_past(until):
            return "past"
        turn = self.next_turn()
        self.beds[guest] = Bed(name, until, mask, turn, turn)
        return "asleep"

    def lie_elsewhere(self, guest, name):
        """The guest goes on sleeping in another line."""
        bed = self.beds[guest]
        self.beds[guest] = Bed(name, bed.until, bed.mask, self.next_turn(), bed.since)

    def end_sleeps(self, guests, ending):
        """The guests leave their lines and sleep no more."""
        for guest in guests:
            del self.beds[guest]
            self.endings[guest] = ending

    def line_of(self, name):
        """The guests in the line of that name: greater standing first, of equal ones the lesser turn."""
        guests = [guest for guest in self.beds if self.beds[guest].name == name]
        return sorted(guests, key=lambda guest: (-self.standing(guest), self.beds[guest].turn))


def copy_fields(source, target):
    """Makes the one hall, made with the same rooms, in all as the other is."""
    target.time = source.time
    target.turns = source.turns
    target.ranks = dict(source.ranks)
    target.beds = dict(source.beds)
    target.endings = dict(source.endings)
    target.entries = list(source.entries)


def check_count(count):
    """Refuses a count below 0."""
    if count < 0:
        raise BadCount(count)


def check_mask(mask):
    """Refuses what is no eight bits with one of them set."""
    if mask < 1 or mask > ALL:
        raise BadCount(mask)


def guests_text(guests):
    """The guests, parted by single blanks, or `nobody`."""
    if not guests:
        return "nobody"
    return " ".join([str(guest) for guest in guests])
