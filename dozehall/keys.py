"""Halls with keys: each has a holder, to whom those who wait for it lend their standing."""

from dozehall.errors import NoKey, NotHolder, Ring
from dozehall.hall import Hall, copy_fields, guests_text
from dozehall.kinds import ALL, EVERY
from dozehall.names import check_once


class KeyHall(Hall):
    """A hall that has keys besides. The line of a key is kept as that of a room, by its name."""

    def __init__(self, rooms, keys):
        check_once(list(rooms) + list(keys))
        Hall.__init__(self, rooms)
        self.holders = {key: None for key in keys}

    def take(self, guest, key, *, until=None):
        """The guest holds the key or lies down for it: `held`, `past` or `asleep`."""
        self.check_key(key)
        self.check_awake(guest)
        answer = "held"
        if self.holders[key] is None:
            self.holders[key] = guest
        else:
            self.check_ring(guest, key)
            answer = self.lie_down(guest, key, until, ALL)
        self.endings[guest] = answer
        self.entries.append(("take", guest, key, until, answer))
        return answer

    def give(self, guest, key):
        """The guest holds the key no more; the first of its line does, and is told."""
        self.check_key(key)
        self.check_awake(guest)
        if self.holders[key] != guest:
            raise NotHolder(guest)
        first = self.line_of(key)[:1]
        told = first[0] if first else None
        self.end_sleeps(first, "held")
        self.holders[key] = told
        self.entries.append(("give", guest, key, told))
        return told

    def holder(self, key):
        """The guest that holds the key, or None."""
        self.check_key(key)
        return self.holders[key]

    def waits(self, key):
        """The guests in the key's line, in its order."""
        self.check_key(key)
        return self.line_of(key)

    def held(self, guest):
        """The keys that the guest holds, sorted."""
        return sorted([key for key in self.holders if self.holders[key] == guest])

    def chain(self, guest):
        """The guest, and from lender to lender to the one whose own rank is its standing."""
        standing = self.standing(guest)
        told = [guest]
        while self.own_rank(told[-1]) != standing:
            lenders = [lender for lender in self.lenders(told[-1]) if self.standing(lender) == standing]
            told.append(lenders[0])
        return told

    def standing(self, guest):
        """The greatest of the guest's rank and the standings of those who sleep for its keys."""
        best = self.own_rank(guest)
        lenders = self.lenders(guest)
        while lenders:
            lender = lenders.pop()
            best = max(best, self.own_rank(lender))
            lenders.extend(self.lenders(lender))
        return best

    def put(self, room, number):
        """As in every hall."""
        super().put(room, number)

    def nudge(self, guest):
        """As in every hall."""
        super().nudge(guest)

    def rank(self, guest, rank):
        """As in every hall."""
        super().rank(guest, rank)

    def sleep(self, guest, room, still, *, until=None, mask=ALL):
        """As in every hall."""
        return super().sleep(guest, room, still, until=until, mask=mask)

    def wake(self, room, *, most=1, mask=ALL):
        """As in every hall."""
        return super().wake(room, most=most, mask=mask)

    def move(self, room, other, *, still=None, wakes=1, moves=EVERY):
        """As in every hall."""
        return super().move(room, other, still=still, wakes=wakes, moves=moves)

    def tick(self, by=1):
        """As in every hall."""
        return super().tick(by)

    def number(self, room):
        """As in every hall."""
        return super().number(room)

    def line(self, room):
        """As in every hall."""
        return super().line(room)

    def asleep(self):
        """As in every hall."""
        return super().asleep()

    def sleeper(self, guest):
        """As in every hall; the name may be a key's."""
        return super().sleeper(guest)

    def ending(self, guest):
        """As in every hall; `held` where the last take came to that."""
        return super().ending(guest)

    def now(self):
        """As in every hall."""
        return super().now()

    def log(self):
        """As in every hall, takes and gives among the deeds."""
        return super().log()

    def twin(self):
        """Another hall with keys that is in all as this one is."""
        other = KeyHall(self.numbers, list(self.holders))
        copy_fields(self, other)
        other.holders = dict(self.holders)
        return other

    def __len__(self):
        return len(self.beds)

    def __str__(self):
        return f"at {self.time}: {guests_text(self.asleep())}"

    def own_rank(self, guest):
        """The guest's rank, whatever is lent to it."""
        return self.ranks.get(guest, 0)

    def lenders(self, guest):
        """The guests that sleep in lines of keys that the guest holds."""
        keys = self.held(guest)
        return [other for other in self.beds if self.beds[other].name in keys]

    def check_key(self, key):
        """Refuses a name that is no key's."""
        if key not in self.holders:
            raise NoKey(key)

    def check_ring(self, guest, key):
        """Refuses a take by which the guest would wait for itself."""
        way = [self.holders[key]]
        while way[-1] in self.beds and self.beds[way[-1]].name in self.holders:
            way.append(self.holders[self.beds[way[-1]].name])
        if way[-1] == guest:
            raise Ring(way)
