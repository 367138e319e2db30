"""A hall with keys written a second time, slowly and from the document alone, to hold the program against.

Lines are kept as lists and put in order behind each deed; deeds tell their answer or the name and the thing of
their refusal. Besides: deeds that are drawn.
"""

ROOMS = {"a": 0, "b": 1, "c": -1}
KEYS = ["k", "l", "m", "n"]
GUESTS = [0, 1, 2, 3, 4, 5, 6, 999999]
STAGE_1 = ("put", "nudge", "rank", "sleep", "wake", "move", "tick")


class Refused(Exception):
    def __init__(self, name, what):
        self.told = (name, what)


class PlainHall:
    def __init__(self, rooms, keys):
        self.number_of = dict(rooms)
        self.lines = {name: [] for name in list(rooms) + list(keys)}
        self.holder_of = {key: None for key in keys}
        self.rank_of, self.ending_of, self.keeps, self.turn_of, self.fell = {}, {}, {}, {}, {}
        self.clock = self.deeds = self.given = 0
        self.entries = []

    def ask(self, word, *parts):
        """The answer of a deed, or the refusal's name and thing."""
        try:
            told = getattr(self, "do_" + word)(*parts)
        except Refused as refused:
            return refused.told
        self.deeds += 1
        self.settle()
        return told

    def settle(self):
        standings = self.standings()
        for line in self.lines.values():
            line.sort(key=lambda guest: (-standings[guest], self.turn_of[guest]))

    def standings(self):
        guests = set(self.rank_of) | {guest for line in self.lines.values() for guest in line}
        guests |= {guest for guest in self.holder_of.values() if guest is not None}
        standing = {guest: self.rank_of.get(guest, 0) for guest in guests}
        changed = True
        while changed:
            changed = False
            for key, holder in self.holder_of.items():
                for guest in self.lines[key]:
                    if standing[guest] > standing[holder]:
                        standing[holder] = standing[guest]
                        changed = True
        return standing

    def where(self, guest):
        for name, line in self.lines.items():
            if guest in line:
                return name
        return None

    def need_room(self, name):
        if name not in self.number_of:
            raise Refused("NoRoom", name)

    def need_key(self, name):
        if name not in self.holder_of:
            raise Refused("NoKey", name)

    def need_awake(self, guest):
        if self.where(guest) is not None:
            raise Refused("Asleep", guest)

    def need_count(self, count):
        if count < 0:
            raise Refused("BadCount", count)

    def need_mask(self, mask):
        if mask not in range(1, 256):
            raise Refused("BadCount", mask)

    def lie(self, guest, name, until, mask):
        if until is not None and until <= self.clock:
            return "past"
        self.keeps[guest] = (until, mask)
        self.fell[guest] = self.deeds
        self.line_up(guest, name)
        return "asleep"

    def line_up(self, guest, name):
        self.given += 1
        self.turn_of[guest] = self.given
        self.lines[name].append(guest)

    def rise(self, guest, ending):
        self.lines[self.where(guest)].remove(guest)
        self.ending_of[guest] = ending

    def do_put(self, room, number):
        self.need_room(room)
        self.number_of[room] = number
        self.entries.append(("put", room, number))

    def do_nudge(self, guest):
        if self.where(guest) is None:
            raise Refused("Awake", guest)
        self.rise(guest, "nudged")
        self.entries.append(("nudge", guest))

    def do_rank(self, guest, rank):
        self.rank_of[guest] = rank
        self.entries.append(("rank", guest, rank))

    def do_sleep(self, guest, room, still, until, mask):
        self.need_room(room)
        self.need_awake(guest)
        self.need_mask(mask)
        told = "changed" if self.number_of[room] != still else self.lie(guest, room, until, mask)
        self.ending_of[guest] = told
        self.entries.append(("sleep", guest, room, still, until, mask, told))
        return told

    def do_wake(self, room, most, mask):
        self.need_room(room)
        self.need_count(most)
        self.need_mask(mask)
        woken = []
        for guest in list(self.lines[room]):
            if len(woken) < most and self.keeps[guest][1] & mask != 0:
                self.rise(guest, "woken")
                woken.append(guest)
        self.entries.append(("wake", room, most, mask, tuple(woken)))
        return woken

    def do_move(self, room, other, still, wakes, moves):
        self.need_room(room)
        self.need_room(other)
        if room == other:
            raise Refused("SameRoom", room)
        self.need_count(wakes)
        self.need_count(moves)
        told = None
        if still is None or still == self.number_of[room]:
            woken, moved = [], []
            for guest in list(self.lines[room]):
                if len(woken) < wakes:
                    self.rise(guest, "woken")
                    woken.append(guest)
                elif len(moved) < moves:
                    self.lines[room].remove(guest)
                    self.line_up(guest, other)
                    moved.append(guest)
            told = (woken, moved)
        self.entries.append(("move", room, other, still, wakes, moves, told and tuple(map(tuple, told))))
        return told

    def do_tick(self, by):
        self.need_count(by)
        self.clock += by
        late = []
        for line in self.lines.values():
            for guest in line:
                until = self.keeps[guest][0]
                if until is not None and until <= self.clock:
                    late.append((until, self.fell[guest], guest))
        told = [guest for until, fell, guest in sorted(late)]
        for guest in told:
            self.rise(guest, "late")
        self.entries.append(("tick", by, tuple(told)))
        return told

    def do_take(self, guest, key, until):
        self.need_key(key)
        self.need_awake(guest)
        told = "held"
        if self.holder_of[key] is None:
            self.holder_of[key] = guest
        else:
            way = [self.holder_of[key]]
            while way[-1] != guest and self.where(way[-1]) in self.holder_of:
                way.append(self.holder_of[self.where(way[-1])])
            if way[-1] == guest:
                raise Refused("Ring", way)
            told = self.lie(guest, key, until, 255)
        self.ending_of[guest] = told
        self.entries.append(("take", guest, key, until, told))
        return told

    def do_give(self, guest, key):
        self.need_key(key)
        self.need_awake(guest)
        if self.holder_of[key] != guest:
            raise Refused("NotHolder", guest)
        told = self.lines[key][0] if self.lines[key] else None
        if told is not None:
            self.rise(told, "held")
        self.holder_of[key] = told
        self.entries.append(("give", guest, key, told))
        return told


def some_deed(chance, words, clock):
    """A deed of which the most are not refused."""
    word = chance.choice(words)
    guest = chance.choice(GUESTS)
    room = chance.choice(["a", "b", "c"]) if chance.random() < 0.95 else chance.choice(["k", "z"])
    other = chance.choice(["a", "b", "c"])
    key = chance.choice(KEYS) if chance.random() < 0.95 else chance.choice(["a", "z"])
    number = chance.choice([-1, 0, 0, 1])
    until = chance.choice([None, None, clock, clock + 1, clock + 2, clock + 5])
    mask = chance.choice([1, 2, 3, 128, 255, 255]) if chance.random() < 0.95 else chance.choice([0, 256])
    count = chance.choice([0, 1, 1, 2, 3, 1000]) if chance.random() < 0.95 else -1
    moves = chance.choice([0, 1, 2, 1000]) if chance.random() < 0.95 else -2
    return {
        "put": ("put", room, number),
        "nudge": ("nudge", guest),
        "rank": ("rank", guest, chance.choice([-2, 0, 0, 1, 2, 9])),
        "sleep": ("sleep", guest, room, number, until, mask),
        "wake": ("wake", room, count, mask),
        "move": ("move", room, other, chance.choice([None, None, number]), count, moves),
        "tick": ("tick", chance.choice([0, 1, 1, 2]) if chance.random() < 0.95 else -1),
        "take": ("take", guest, key, until),
        "give": ("give", guest, key),
    }[word]
