"""The plain meaning of clients written a second time, from the document alone, to hold the program against.

A book is the dict of the parts that it is made with. Each rule tells what an event changes, or None where it is not
let by, so that an event can be tried without being done.
"""

import itertools

RESTS = ("rest", "await", "try")
WORDS = ("takes", "frees", "rests", "sleeps", "back", "calls", "late", "nudged", "downs", "ups")


class PlainMeaning:
    def __init__(self, book, clients, ranks=None, nudges=False):
        self.clients = clients
        self.ranks = [0] * len(clients) if ranks is None else ranks
        self.nudges = nudges
        self.lock_of = dict(book["conds"])
        self.held_by = {lock: None for lock in book["locks"]}
        self.calls = {cond: 0 for cond, lock in book["conds"]}
        self.line = {cond: [] for cond, lock in book["conds"]}
        self.number = dict(list(book["counts"]) + list(book["cells"]))
        self.at = [0] * len(clients)
        self.how = ["fresh"] * len(clients)
        self.ticket = [None] * len(clients)

    def lets(self, event):
        return self.change(event) is not None

    def do(self, event):
        """Whether the event is let by; it is done then."""
        change = self.change(event)
        if change is not None:
            change()
        return change is not None

    def held(self):
        return sorted((lock, guest) for lock, guest in self.held_by.items() if guest is not None)

    def change(self, event):
        word, g = event[:2]
        if g not in range(len(self.clients)) or self.at[g] == len(self.clients[g]):
            return None
        row = self.clients[g][self.at[g]]
        rule = getattr(self, "rule_" + word)
        return rule(g, row, self.how[g], *event[2:])

    def go_on(self, g):
        self.at[g] += 1
        self.how[g] = "fresh"

    def be(self, g, how):
        self.how[g] = how

    def rule_takes(self, g, row, how, lock):
        if self.held_by.get(lock, "nowhere") is not None:
            return None
        if row == ("lock", lock) and how == "fresh":
            on = True
        elif row[0] in RESTS and self.lock_of[row[1]] == lock and how in ("back", "moved", "late"):
            on = row[0] == "rest" or how == "late"
        else:
            return None

        def change():
            self.held_by[lock] = g
            if on:
                self.go_on(g)
            else:
                self.be(g, "fresh")
        return change

    def rule_frees(self, g, row, how, lock):
        if row != ("free", lock) or how != "fresh" or self.held_by[lock] != g:
            return None

        def change():
            self.held_by[lock] = None
            self.go_on(g)
        return change

    def rule_sees(self, g, row, how, cell, number):
        if row[0] not in ("await", "try") or how != "fresh" or row[2] != cell or self.number[cell] != number:
            return None
        return lambda: self.be(g, "seen") if number == row[3] else self.go_on(g)

    def rule_rests(self, g, row, how, cond):
        ready = row == ("rest", cond) and how == "fresh" or row[0] in ("await", "try") and row[1] == cond and how == "seen"
        if not ready or self.held_by[self.lock_of[cond]] != g:
            return None

        def change():
            self.held_by[self.lock_of[cond]] = None
            self.ticket[g] = self.calls[cond]
            self.be(g, "resting")
        return change

    def rule_sleeps(self, g, row, how, cond):
        if row[0] not in RESTS or row[1] != cond or how != "resting" or self.calls[cond] != self.ticket[g]:
            return None

        def change():
            line = self.line[cond]
            ahead = [place for place, other in enumerate(line) if self.ranks[other] >= self.ranks[g]]
            line.insert(max(ahead, default=-1) + 1, g)
            self.be(g, "asleep")
        return change

    def rule_back(self, g, row, how, cond):
        if row[0] not in RESTS or row[1] != cond or how != "resting" or self.calls[cond] == self.ticket[g]:
            return None
        return lambda: self.be(g, "back")

    def rule_calls(self, g, row, how, cond):
        if row[0] not in ("call", "all") or row[1] != cond or how != "fresh" or self.held_by[self.lock_of[cond]] != g:
            return None

        def change():
            self.calls[cond] += 1
            self.be(g, "calling")
        return change

    def rule_rouses(self, g, row, how, cond, woken, moved):
        if row[0] not in ("call", "all") or row[1] != cond or how != "calling":
            return None
        first, *rest = self.line[cond] or [None]
        if woken != (() if first is None else (first,)) or moved != (tuple(rest) if row[0] == "all" else ()):
            return None

        def change():
            for other in woken:
                self.be(other, "back")
            for other in moved:
                self.be(other, "moved")
            self.line[cond] = [other for other in self.line[cond] if other not in woken + moved]
            self.go_on(g)
        return change

    def leaves(self, g, cond, how):
        def change():
            if g in self.line[cond]:
                self.line[cond].remove(g)
            self.be(g, how)
        return change

    def rule_late(self, g, row, how, cond):
        if row[0] != "try" or row[1] != cond or how not in ("asleep", "moved"):
            return None
        return self.leaves(g, cond, "late")

    def rule_nudged(self, g, row, how, cond):
        if not self.nudges or row[0] not in RESTS or row[1] != cond or how not in ("asleep", "moved"):
            return None
        return self.leaves(g, cond, "back")

    def counted(self, g, name, number):
        def change():
            self.number[name] = number
            self.go_on(g)
        return change

    def rule_downs(self, g, row, how, count):
        if row != ("down", count) or how != "fresh" or self.number[count] <= 0:
            return None
        return self.counted(g, count, self.number[count] - 1)

    def rule_ups(self, g, row, how, count):
        if row != ("up", count) or how != "fresh":
            return None
        return self.counted(g, count, self.number[count] + 1)

    def rule_sets(self, g, row, how, cell, number):
        if how != "fresh" or row[:2] not in (("set", cell), ("add", cell)):
            return None
        if number != (row[2] if row[0] == "set" else self.number[cell] + row[2]):
            return None
        return self.counted(g, cell, number)

    def all_events(self):
        """Each event that guests, names and numbers near to what is so may be put together to, and some from afar."""
        many = len(self.clients)
        names = [*self.held_by, *self.calls, *self.number, "q"]
        numbers = sorted({number + more for number in self.number.values() for more in (-1, 0, 1)} | {0})
        lines = [tuple(told) for line in self.line.values() for told in (line, line[:1], line[1:], line[::-1])]
        for g in (-1, *range(many + 1), 10 ** 70):
            yield from ((word, g, name) for word in WORDS for name in names)
            yield from ((word, g, name, number) for word in ("sees", "sets") for name in names for number in numbers)
            for name in [*self.calls, "q"]:
                for one, two in itertools.product({(), (0,), *lines}, repeat=2):
                    yield "rouses", g, name, one, two
