"""What holds in every weaving of a built world (points 3 and 39)."""

import random
import unittest

import plain_clients
import plain_world
from dozehall.building import Built
from dozehall.clients import Book
from dozehall.looks import look
from dozehall.weaves import by_turns, drive, run


class Walk:
    """A built world besides what it was built of, for what is told of its states."""

    def __init__(self, parts, clients, more):
        self.built = Built(Book(**parts), clients, **more)
        self.world = self.built.world
        plans = [plain_clients.built(parts, client) for client in clients]
        self.plans = [plan[0] for plan in plans]
        self.marks = [plan[1] for plan in plans]
        self.clients = clients
        self.locks = parts["locks"]
        self.counts = [name for name, number in parts["counts"]]
        names = self.locks + self.counts + [name for name, told in parts["conds"] + parts["cells"]]
        self.names = sorted(names)

    def number(self, state, name):
        return state[0][self.names.index(name)]

    def line(self, state, name):
        return state[3][self.names.index(name)]

    def rows(self, state):
        """For each guest that is not at its end: the guest, its plan's row, its client's row, and whether it sleeps."""
        for guest, plan in enumerate(self.plans):
            place = state[1][guest]
            if place < len(plan):
                row = self.clients[guest][self.built.spot(guest, place)[0]]
                yield guest, plan[place], row, plain_world.sleeping(state, guest)


class Everywhere(unittest.TestCase):
    def hold(self, walk, state):
        """All that is told of a single state."""
        self.assertIs(walk.world.clash(state), False)
        held = [lock for marks, place in zip(walk.marks, state[1]) for lock in marks[place]]
        self.assertEqual(len(held), len(set(held)))
        rows = list(walk.rows(state))
        for lock in walk.locks:
            if walk.line(state, lock):
                self.lying_at_locks += 1
                if walk.number(state, lock) != 2:
                    helps = [row for guest, row, source, asleep in rows if not asleep
                             and (row[:2] == ("wake", lock) or row[:3] == ("swap", lock, 2))]
                    self.assertTrue(helps, state)
                    self.helped += 1
        for count in walk.counts:
            if walk.line(state, count):
                self.lying_at_counts += 1
                wakes = [guest for guest, row, source, asleep in rows if source == ("up", count) and row[0] == "wake"]
                downs = [guest for guest, row, source, asleep in rows if source == ("down", count) and not asleep]
                self.assertLessEqual(walk.number(state, count), len(wakes) + len(downs))

    def setUp(self):
        self.lying_at_locks = self.lying_at_counts = self.helped = 0

    def some(self, chance, guests, rows):
        kind = chance.choice([plain_clients.some_built, plain_clients.some_meeting])
        return Walk(*kind(chance, guests, rows))

    def test_in_each_state_of_drawn_weavings(self):
        chance = random.Random(39)
        for number in range(700):
            walk = self.some(chance, chance.randrange(1, 7), 5)
            for state in run(walk.world, drive(walk.world, plain_clients.some_picks(chance, 130))):
                self.hold(walk, state)
        self.assertGreater(self.lying_at_locks, 1000)
        self.assertGreater(self.helped, 1000)
        self.assertGreater(self.lying_at_counts, 1000)

    def test_in_each_state_of_small_worlds(self):
        chance = random.Random(391)
        seen = 0
        for number in range(60):
            walk = self.some(chance, 2, 3)
            ways = plain_world.reachable(self.plain(walk), 1500)
            if ways is not None:
                seen += 1
                for state in ways:
                    self.hold(walk, state)
                self.no_round(walk.world, list(ways))
        self.assertGreater(seen, 25)

    def plain(self, walk):
        names, start = walk.names, walk.world.start()
        ranks = walk.world.ranks
        return plain_world.plain_world(dict(zip(names, start[0])), walk.plans, None, ranks, walk.world.nudges)

    def no_round(self, world, states):
        """No way by steps alone leads from a state to itself: taking away those without a step, all go."""
        goals = {state: {world.after(state, move) for move in world.can(state) if move[0] == "step"} for state in states}
        sources = {state: [] for state in states}
        for state in states:
            for goal in goals[state]:
                sources[goal].append(state)
        free = [state for state in states if not goals[state]]
        for goal in free:
            for source in sources[goal]:
                goals[source].remove(goal)
                if not goals[source]:
                    free.append(source)
        self.assertEqual(len(free), len(states))

    def test_steps_alone_come_to_an_end(self):
        chance = random.Random(392)
        for number in range(250):
            walk = self.some(chance, chance.randrange(1, 7), 5)
            state = run(walk.world, drive(walk.world, plain_clients.some_picks(chance, chance.randrange(60))))[-1]
            turns = by_turns(walk.world, state)
            self.assertLess(len(turns), 4000)
            last = self.by_steps(walk.world, state, chance)
            self.assertEqual([move for move in walk.world.can(last) if move[0] == "step"], [])

    def by_steps(self, world, state, chance):
        """Where steps in a drawn order end, if they do."""
        for number in range(4000):
            steps = [move for move in world.can(state) if move[0] == "step"]
            if not steps:
                break
            state = world.after(state, chance.choice(steps))
        return state


def locks_alone(chance):
    """Clients without rests and downs that lock only what is greater than every lock that they hold."""
    parts = {
        "locks": ["l", "o", "b"], "conds": [("c", "o"), ("e", "b")], "counts": [("s", 0)], "cells": [("d", 0)],
    }
    clients = []
    for guest in range(chance.randrange(1, 6)):
        client, held = [], []
        for number in range(chance.randrange(9)):
            may = [("up", "s"), ("set", "d", 1), ("add", "d", -1)]
            may += [("lock", lock) for lock in parts["locks"] if all(lock > other for other in held)] * 3
            may += [("free", lock) for lock in held]
            may += [(word, cond) for cond, lock in parts["conds"] if lock in held for word in ("call", "all")]
            row = chance.choice(may)
            client.append(row)
            if row[0] == "lock":
                held.append(row[1])
            if row[0] == "free":
                held.remove(row[1])
        clients.append(client + [("free", lock) for lock in held])
    return parts, clients


def counts_alone(chance):
    """Clients of ups, downs, sets and adds, ups ahead of downs, each count with enough for all its downs."""
    guests = chance.randrange(1, 6)
    first = {"s": chance.choice([0, 0, 1]), "t": 0}
    ups = [[chance.choice("st") for number in range(chance.choice([0, 0, 1, 3]))] for guest in range(guests)]
    enough = [count for told in ups for count in told] + ["s"] * first["s"]
    chance.shuffle(enough)
    downs = [[] for guest in range(guests)]
    for count in enough[:len(enough) - chance.choice([0, 0, 1])]:
        chance.choice(downs).append(count)
    clients = []
    for some, others in zip(ups, downs):
        client = [("up", count) for count in some] + [("down", count) for count in others]
        for number in range(chance.randrange(3)):
            client.insert(chance.randrange(len(client) + 1), chance.choice([("set", "d", 2), ("add", "d", 1)]))
        clients.append(client)
    return {"locks": [], "conds": [], "counts": sorted(first.items()), "cells": [("d", 0)]}, clients


def puts_and_gets(chance):
    """Clients of puts and gets, each client's puts ahead of its gets, each cell with enough for all its gets."""
    conds = [("c", "m"), ("e", chance.choice(["m", "n"]))]
    of_cell = {"d": conds[0], "x": conds[1]}
    clients, left = [], {"d": 0, "x": 0}
    for guest in range(chance.randrange(1, 6)):
        client = []
        for number in range(chance.randrange(3)):
            cell = chance.choice("dx")
            cond, lock = of_cell[cell]
            client += [("lock", lock), ("add", cell, 1), (chance.choice(["call", "all"]), cond), ("free", lock)]
            left[cell] += 1
        for number in range(chance.randrange(3)):
            cell = chance.choice("dx")
            cond, lock = of_cell[cell]
            client += [("lock", lock), ("await", cond, cell, 0), ("add", cell, -1), ("free", lock)]
            left[cell] -= 1
        clients.append(client)
    cells = [(cell, max(0, -left[cell]) + chance.choice([0, 0, 1])) for cell in "dx"]
    return {"locks": ["m", "n"], "conds": conds, "counts": [], "cells": cells}, clients


class NeverStuck(unittest.TestCase):
    def never(self, some, seed, many):
        chance = random.Random(seed)
        slept = 0
        for number in range(many):
            parts, clients = some(chance)
            more = {"nudges": chance.random() < 0.5, "ranks": [chance.choice([-1, 0, 1]) for guest in clients]}
            world = Built(Book(**parts), clients, **more).world
            states = run(world, drive(world, plain_clients.some_picks(chance, 150)))
            for state in states:
                self.assertIs(world.stuck(state), False)
                slept += any(state[3])
            # No state is stuck and steps come to an end, so they end where all are at their ends.
            for state in states[:1] + states[-1:]:
                then = state
                for move in by_turns(world, state):
                    then = world.after(then, move)
                self.assertIs(world.ended(then), True)
        self.assertGreater(slept, 300)

    def in_all_weavings(self, some, seed, rooms):
        """Small worlds, looked at whole."""
        chance = random.Random(seed)
        seen = 0
        while seen < 12:
            parts, clients = some(chance)
            world = Built(Book(**parts), clients[:2], nudges=chance.random() < 0.5).world
            if some != locks_alone and len(clients) > 2 or len(world.start()[0]) > rooms:
                continue
            plain = plain_clients.world_of(parts, clients[:2], None, world.nudges)
            if plain_world.reachable(plain, 1500) is not None:
                seen += 1
                self.assertEqual(look(world)[0], "well")

    def test_locks_alone(self):
        self.never(locks_alone, 1, 250)
        self.in_all_weavings(locks_alone, 11, 7)

    def test_counts_alone(self):
        self.never(counts_alone, 2, 500)
        self.in_all_weavings(counts_alone, 12, 5)

    def test_puts_and_gets(self):
        self.never(puts_and_gets, 3, 250)
        self.in_all_weavings(puts_and_gets, 13, 6)

    def test_others_may_be_stuck(self):
        # So that what is told of these kinds is not true of all clients alike.
        book = Book(locks=["l", "m"], conds=[("c", "m")], counts=[("s", 0)])
        one, two = [("lock", name) for name in "lm"], [("lock", name) for name in "ml"]
        free = [("free", "l"), ("free", "m")]
        self.assertEqual(look(Built(book, [one + free, two + free]).world)[0], "stuck")
        self.assertEqual(look(Built(book, [[("down", "s")]]).world)[0], "stuck")
        self.assertEqual(look(Built(book, [[("lock", "m"), ("rest", "c"), ("free", "m")]]).world)[0], "stuck")


if __name__ == "__main__":
    unittest.main()
