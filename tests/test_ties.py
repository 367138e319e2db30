"""Weavings done in a hall (points 2 and 40)."""

import copy
import random
import unittest

import plain_clients
import plain_world
from dozehall.books import first_fault, sleeps
from dozehall.building import Built
from dozehall.clients import Book
from dozehall.errors import NoMove
from dozehall.hall import Hall
from dozehall.ties import replay
from dozehall.weaves import drive, run
from dozehall.worlds import World

BIG = int("9" * 60)


def steps(*guests):
    return [("step", guest) for guest in guests]


def plain_log(world, moves):
    """The log that the hall of a weaving must have, made from the states of a world of plain_world alone."""
    names = sorted(world["rooms"])
    entries = [("rank", guest, rank) for guest, rank in enumerate(world["ranks"]) if rank != 0]
    state = plain_world.start(world)
    for place, (word, guest) in enumerate(moves):
        then = plain_world.after(world, state, (word, guest))
        entries.append(("tick", 1, (guest,) if word == "late" else ()))
        if word == "nudge":
            entries.append(("nudge", guest))
        if word == "step":
            row = world["plans"][guest][state[1][guest]]
            seat = names.index(row[1])
            line, found, left = state[3][seat], state[0][seat], then[0][seat]
            match row[0]:
                case "set" | "swap" | "add":
                    entries.append(("put", row[1], left))
                case "cas" if found == row[2]:
                    entries.append(("put", row[1], row[3]))
                case "take" if found > 0:
                    entries.append(("put", row[1], found - 1))
                case "wake":
                    entries.append(("wake", row[1], row[2], 255, line[:row[2]]))
                case "move":
                    n, m = row[3:]
                    entries.append(("move", row[1], row[2], None, n, m, (line[:n], line[n:n + m])))
                case "wait" | "still":
                    still = row[2] if row[0] == "wait" else state[2][guest]
                    behind = [at for at in range(place + 1, len(moves)) if moves[at][1] == guest]
                    late = bool(behind) and moves[behind[0]][0] == "late"
                    answer = "asleep" if plain_world.sleeping(then, guest) else "changed"
                    entries.append(("sleep", guest, row[1], still, behind[0] + 1 if late else None, 255, answer))
        state = then
    return entries


class Rows(unittest.TestCase):
    def check(self, rooms, plans, moves, wanted, **more):
        world = World(rooms, plans, **more)
        hall = replay(world, moves)
        self.assertEqual(hall.log(), wanted)
        self.assertIs(type(hall), Hall)
        self.assertEqual(hall.now(), len(moves))
        state = run(world, moves)[-1]
        names = sorted(rooms)
        self.assertEqual([hall.number(name) for name in names], list(state[0]))
        self.assertEqual([hall.line(name) for name in names], [list(line) for line in state[3]])
        self.assertIsNone(first_fault(rooms, hall.log()))

    def one(self, row, rooms, *behind):
        """One guest that does one row, the rooms with these numbers."""
        self.check(rooms, [[row]], steps(0), [("tick", 1, ()), *behind])

    def test_without_moves(self):
        self.check({"b": 1, "a": -BIG}, [[], []], [], [])
        self.check({"a": 0}, [], [], [])

    def test_ranks_by_rising_guests(self):
        self.check({"a": 0}, [[]] * 5, [], [("rank", 1, 7), ("rank", 2, -3), ("rank", 4, BIG)], ranks=[0, 7, -3, 0, BIG])
        self.check({"a": 0}, [[("load", "a")]] * 2, steps(0), [("rank", 0, 1), ("tick", 1, ())], ranks=[1, 0])
        self.check({"a": 0}, [[]] * 2, [], [], ranks=[0, 0])

    def test_set(self):
        self.one(("set", "a", 7), {"a": 0}, ("put", "a", 7))
        self.one(("set", "a", 0), {"a": 0}, ("put", "a", 0))
        self.one(("set", "a", -BIG), {"a": BIG}, ("put", "a", -BIG))

    def test_add(self):
        self.one(("add", "a", 3, 5, 0), {"a": 2}, ("put", "a", 5))
        self.one(("add", "a", 3, 5, 0), {"a": 4}, ("put", "a", 7))
        self.one(("add", "a", 0, 5, 0), {"a": 4}, ("put", "a", 4))
        self.one(("add", "a", BIG, 5, 0), {"a": BIG}, ("put", "a", 2 * BIG))

    def test_swap(self):
        self.one(("swap", "a", 7, 0, 0), {"a": 0}, ("put", "a", 7))
        self.one(("swap", "a", 7, 0, 0), {"a": 1}, ("put", "a", 7))
        self.one(("swap", "a", 7, 0, 0), {"a": 7}, ("put", "a", 7))

    def test_cas(self):
        self.one(("cas", "a", 2, 7, 0), {"a": 2}, ("put", "a", 7))
        self.one(("cas", "a", 2, 2, 0), {"a": 2}, ("put", "a", 2))
        self.one(("cas", "a", 2, 7, 0), {"a": 3})
        self.one(("cas", "a", 2, 7, 0), {"a": 7})

    def test_take(self):
        self.one(("take", "a", 0), {"a": 1}, ("put", "a", 0))
        self.one(("take", "a", 0), {"a": BIG}, ("put", "a", BIG - 1))
        self.one(("take", "a", 0), {"a": 0})
        self.one(("take", "a", 0), {"a": -1})

    def test_rows_that_are_done_by_nothing_more_than_the_tick(self):
        self.one(("load", "a"), {"a": 3})
        self.one(("if", "a", 3, 0), {"a": 3})
        self.one(("if", "a", 3, 0), {"a": 4})

    def test_wait(self):
        self.one(("wait", "a", 3, 0, 0, -1), {"a": 3}, ("sleep", 0, "a", 3, None, 255, "asleep"))
        self.one(("wait", "a", 3, 0, 0, 0), {"a": 3}, ("sleep", 0, "a", 3, None, 255, "asleep"))
        self.one(("wait", "a", 3, 0, 0, 0), {"a": 4}, ("sleep", 0, "a", 3, None, 255, "changed"))

    def test_still(self):
        self.one(("still", "a", 0, 0, -1), {"a": 0}, ("sleep", 0, "a", 0, None, 255, "asleep"))
        self.one(("still", "a", 0, 0, 0), {"a": 1}, ("sleep", 0, "a", 0, None, 255, "changed"))
        self.check({"a": 7}, [[("load", "a"), ("still", "a", 2, 2, -1)]], steps(0, 0), [
            ("tick", 1, ()), ("tick", 1, ()), ("sleep", 0, "a", 7, None, 255, "asleep"),
        ])
        # The own number is the guest's own.
        self.check({"a": 7}, [[("load", "a"), ("still", "a", 2, 2, -1)], [("still", "a", 1, 1, -1)]], steps(0, 1, 0), [
            ("tick", 1, ()), ("tick", 1, ()), ("sleep", 1, "a", 0, None, 255, "changed"),
            ("tick", 1, ()), ("sleep", 0, "a", 7, None, 255, "asleep"),
        ])

    def sleeping(self, *guests):
        """The entries of guests that lie down in a, one move each."""
        return [entry for guest in guests for entry in (("tick", 1, ()), ("sleep", guest, "a", 0, None, 255, "asleep"))]

    def test_wake(self):
        bed = [("wait", "a", 0, 1, 1, -1)]
        for n, woken in ((0, ()), (1, (0,)), (2, (0, 1)), (9, (0, 1)), (BIG, (0, 1))):
            self.check({"a": 0}, [bed, bed, [("wake", "a", n)]], steps(0, 1, 2), [
                *self.sleeping(0, 1), ("tick", 1, ()), ("wake", "a", n, 255, woken),
            ])
        self.one(("wake", "a", 2), {"a": 0}, ("wake", "a", 2, 255, ()))

    def test_move(self):
        bed = [("wait", "a", 0, 1, 1, -1)]
        for n, m, told in (
            (0, 0, ((), ())), (1, 0, ((0,), ())), (0, 1, ((), (0,))), (1, 1, ((0,), (1,))), (1, 1000, ((0,), (1, 2))),
            (0, BIG, ((), (0, 1, 2))), (BIG, 2, ((0, 1, 2), ())), (2, 9, ((0, 1), (2,))),
        ):
            self.check({"a": 0, "b": 5}, [bed, bed, bed, [("move", "a", "b", n, m)]], steps(0, 1, 2, 3), [
                *self.sleeping(0, 1, 2), ("tick", 1, ()), ("move", "a", "b", None, n, m, told),
            ])

    def test_lines_by_ranks(self):
        bed = [("wait", "a", 0, 1, 1, -1)]
        self.check({"a": 0, "b": 0}, [bed, bed, bed, [("move", "a", "b", 1, 2)]], steps(0, 1, 2, 3), [
            ("rank", 0, -1), ("rank", 2, 4), *self.sleeping(0, 1, 2), ("tick", 1, ()),
            ("move", "a", "b", None, 1, 2, ((2,), (1, 0))),
        ], ranks=[-1, 0, 4, 0])

    def test_a_nudge(self):
        bed = [("wait", "a", 0, 1, 1, 1), ("load", "a")]
        self.check({"a": 0}, [bed], steps(0) + [("nudge", 0)] + steps(0), [
            *self.sleeping(0), ("tick", 1, ()), ("nudge", 0), ("tick", 1, ()),
        ], nudges=True)

    def test_a_late_end(self):
        bed = [("wait", "a", 0, 2, 2, 1), ("load", "a")]
        self.check({"a": 0}, [bed], steps(0) + [("late", 0)] + steps(0), [
            ("tick", 1, ()), ("sleep", 0, "a", 0, 2, 255, "asleep"), ("tick", 1, (0,)), ("tick", 1, ()),
        ])
        # Others move in between: the until is the time at the late end.
        self.check({"a": 0}, [bed, [("load", "a")] * 3], steps(1, 0, 1, 1) + [("late", 0)], [
            ("tick", 1, ()), ("tick", 1, ()), ("sleep", 0, "a", 0, 5, 255, "asleep"), ("tick", 1, ()), ("tick", 1, ()),
            ("tick", 1, (0,)),
        ])

    def test_a_late_end_of_a_still(self):
        bed = [("still", "a", 1, 1, 1)]
        self.check({"a": 0}, [bed], steps(0) + [("late", 0)], [
            ("tick", 1, ()), ("sleep", 0, "a", 0, 2, 255, "asleep"), ("tick", 1, (0,)),
        ])

    def test_a_late_end_of_a_guest_that_was_moved_in_between(self):
        bed = [("wait", "a", 0, 1, 1, 1)]
        self.check({"a": 0, "b": 0}, [bed, [("move", "a", "b", 0, 5)]], steps(0, 1) + [("late", 0)], [
            ("tick", 1, ()), ("sleep", 0, "a", 0, 3, 255, "asleep"), ("tick", 1, ()),
            ("move", "a", "b", None, 0, 5, ((), (0,))), ("tick", 1, (0,)),
        ])

    def test_no_until_where_the_next_move_is_another(self):
        bed = [("wait", "a", 0, 0, 0, 1)]
        # Woken first; it is late only in its second sleep.
        self.check({"a": 0}, [bed, [("wake", "a", 1)]], steps(0, 1, 0) + [("late", 0)], [
            ("tick", 1, ()), ("sleep", 0, "a", 0, None, 255, "asleep"), ("tick", 1, ()), ("wake", "a", 1, 255, (0,)),
            ("tick", 1, ()), ("sleep", 0, "a", 0, 4, 255, "asleep"), ("tick", 1, (0,)),
        ])
        # Nudged first.
        self.check({"a": 0}, [bed], steps(0) + [("nudge", 0)] + steps(0) + [("late", 0)], [
            ("tick", 1, ()), ("sleep", 0, "a", 0, None, 255, "asleep"), ("tick", 1, ()), ("nudge", 0),
            ("tick", 1, ()), ("sleep", 0, "a", 0, 4, 255, "asleep"), ("tick", 1, (0,)),
        ], nudges=True)
        # Answered `changed`; its next move is a step.
        self.check({"a": 1}, [bed, [("set", "a", 0)]], steps(0, 1, 0) + [("late", 0)], [
            ("tick", 1, ()), ("sleep", 0, "a", 0, None, 255, "changed"), ("tick", 1, ()), ("put", "a", 0),
            ("tick", 1, ()), ("sleep", 0, "a", 0, 4, 255, "asleep"), ("tick", 1, (0,)),
        ])

    def test_no_until_where_there_is_no_next_move(self):
        bed = [("wait", "a", 0, 1, 1, 1)]
        # The late end of another guest is none of its own.
        self.check({"a": 0}, [bed, bed], steps(0, 1) + [("late", 1)], [
            ("tick", 1, ()), ("sleep", 0, "a", 0, None, 255, "asleep"), ("tick", 1, ()),
            ("sleep", 1, "a", 0, 3, 255, "asleep"), ("tick", 1, (1,)),
        ])

    def test_two_late_ends(self):
        bed = [("wait", "a", 0, 1, 1, 1)]
        self.check({"a": 0}, [bed, bed], steps(0, 1) + [("late", 1), ("late", 0)], [
            ("tick", 1, ()), ("sleep", 0, "a", 0, 4, 255, "asleep"), ("tick", 1, ()),
            ("sleep", 1, "a", 0, 3, 255, "asleep"), ("tick", 1, (1,)), ("tick", 1, (0,)),
        ])


class Refusals(unittest.TestCase):
    def test_at_the_place(self):
        world = World({"a": 0}, [[("load", "a")] * 3, [("wait", "a", 0, 1, 1, -1)]])
        for moves, place in (
            ([("late", 0)], 0),
            ([("step", 2)] + steps(0), 0),
            ([("step", -1)], 0),
            ([("zzz", 0)], 0),
            (steps(0, 1, 1, 0), 2),
            (steps(0, 1) + [("late", 1)] + steps(9), 2),
            (steps(0, 1) + [("nudge", 1)], 2),
            (steps(0, 0, 0, 0), 3),
        ):
            with self.subTest(moves=moves):
                before = list(moves)
                for again in range(2):
                    with self.assertRaises(NoMove) as caught:
                        replay(world, moves)
                    self.assertIs(type(caught.exception), NoMove)
                    self.assertEqual(caught.exception.what, place)
                self.assertEqual(moves, before)


class Throughout(unittest.TestCase):
    def test_handed_in_things_stay_and_each_hall_is_the_askers_own(self):
        world = World({"a": 0}, [[("wait", "a", 0, 1, 1, 1)], [("set", "a", 1)]], ranks=[3, 0])
        before = copy.deepcopy(vars(world))
        moves = steps(0, 1)
        hall = replay(world, moves)
        log = hall.log()
        self.assertEqual(moves, steps(0, 1))
        self.assertEqual(vars(world), before)
        hall.put("a", 9)
        hall.wake("a")
        moves.clear()
        again = replay(world, steps(0, 1))
        self.assertEqual(again.log(), log)
        self.assertEqual(again.line("a"), [0])
        self.assertEqual(world.start()[0], (0,))

    def hold(self, world, plain, moves):
        hall = replay(world, moves)
        names = sorted(plain["rooms"])
        self.assertEqual(hall.log(), plain_log(plain, moves))
        state = run(world, moves)[-1]
        self.assertEqual([hall.number(name) for name in names], list(state[0]))
        self.assertEqual([hall.line(name) for name in names], [list(line) for line in state[3]])
        self.assertIsNone(first_fault(plain["rooms"], hall.log()))
        self.hold_sleeps(hall, plain, moves)
        return {entry[0] for entry in hall.log()} | {how for guest, at, trail, end, how in sleeps(hall.log())}

    def hold_sleeps(self, hall, plain, moves):
        """The sleeps of the log are those of the weaving: who, in which order, how each of them ends."""
        wanted, lying = [], {}
        state = plain_world.start(plain)
        for word, mover in moves:
            then = plain_world.after(plain, state, (word, mover))
            for guest in list(lying):
                if not plain_world.sleeping(then, guest):
                    how = {"late": "late", "nudge": "nudged", "step": "woken"}[word]
                    wanted[lying.pop(guest)][1] = how
            if plain_world.sleeping(then, mover) and mover not in lying:
                lying[mover] = len(wanted)
                wanted.append([mover, "asleep"])
            state = then
        self.assertEqual([[guest, how] for guest, at, trail, end, how in sleeps(hall.log())], wanted)

    def test_drawn_worlds(self):
        chance = random.Random(40)
        words = set()
        for number in range(500):
            rooms, plans, more = plain_world.some_world(chance, chance.randrange(5), 6)
            world = World(rooms, plans, **more)
            moves = drive(world, plain_clients.some_picks(chance, chance.randrange(61)))
            words |= self.hold(world, plain_world.plain_world(rooms, plans, **more), moves)
        self.assertEqual(words, {
            "rank", "tick", "put", "sleep", "wake", "move", "nudge", "woken", "late", "nudged", "asleep",
        })

    def test_drawn_built_worlds(self):
        chance = random.Random(401)
        for number in range(300):
            some = chance.choice([plain_clients.some_built, plain_clients.some_meeting])
            parts, clients, more = some(chance, chance.randrange(1, 6), 4)
            world = Built(Book(**parts), clients, **more).world
            moves = drive(world, plain_clients.some_picks(chance, 60))
            self.hold(world, plain_clients.world_of(parts, clients, **more), moves)


if __name__ == "__main__":
    unittest.main()
