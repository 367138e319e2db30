"""Clients built into plans: rows, marks, worlds, spots (points 2, 34 and 35)."""

import copy
import random
import unittest

import plain_clients
from dozehall.building import Built, plan_of
from dozehall.clients import Book
from dozehall.errors import BadClient
from dozehall.weaves import drive, run

BIG = int("9" * 60)
PARTS = {
    "locks": ["n", "m"],
    "conds": [("c", "m"), ("e", "n"), ("a", "m")],
    "counts": [("s", 2), ("t", BIG)],
    "cells": [("d", 5), ("x", -BIG)],
}
BOOK = Book(**PARTS)


def rows_of(row, p):
    """The rows of a client's row, as the document tells them, p put in; c's and a's lock is m, e's is n."""
    name = row[1]
    lock = {"c": "m", "a": "m", "e": "n"}.get(name, name)
    match row:
        case ("lock", _):
            return [("cas", lock, 0, 1, p + 3), ("swap", lock, 2, 0, p + 3), ("wait", lock, 2, p + 1, p + 1, -1)]
        case ("free", _):
            return [("swap", lock, 0, 1, p + 2), ("wake", lock, 1)]
        case ("rest", _):
            return [
                ("load", name), ("swap", lock, 0, 1, p + 3), ("wake", lock, 1), ("still", name, p + 4, p + 4, -1),
                ("swap", lock, 2, 0, p + 6), ("wait", lock, 2, p + 4, p + 4, -1),
            ]
        case ("await", _, cell, k):
            return [
                ("if", cell, k, p + 7), ("load", name), ("swap", lock, 0, 1, p + 4), ("wake", lock, 1),
                ("still", name, p + 5, p + 5, -1), ("swap", lock, 2, 0, p), ("wait", lock, 2, p + 5, p + 5, -1),
            ]
        case ("try", _, cell, k):
            return [
                ("if", cell, k, p + 9), ("load", name), ("swap", lock, 0, 1, p + 4), ("wake", lock, 1),
                ("still", name, p + 5, p + 5, p + 7), ("swap", lock, 2, 0, p), ("wait", lock, 2, p + 5, p + 5, -1),
                ("swap", lock, 2, 0, p + 9), ("wait", lock, 2, p + 7, p + 7, -1),
            ]
        case ("call", _):
            return [("add", name, 1, 0, p + 1), ("wake", name, 1)]
        case ("all", _):
            return [("add", name, 1, 0, p + 1), ("move", name, lock, 1, 1000)]
        case ("down", _):
            return [("take", name, p + 2), ("wait", name, 0, p, p, -1)]
        case ("up", _):
            return [("add", name, 1, 0, p + 1), ("wake", name, 1)]
        case ("set", _, k):
            return [("set", name, k)]
        case ("add", _, k):
            return [("add", name, k, 0, p + 1)]
    raise AssertionError(row)


class Rows(unittest.TestCase):
    def check(self, client):
        wanted = []
        for row in client:
            wanted += rows_of(row, len(wanted))
        rows, marks = plan_of(BOOK, client)
        self.assertEqual(rows, wanted)
        self.assertIs(type(rows), list)
        self.assertIs(type(marks), list)
        self.assertEqual(len(marks), len(rows) + 1)
        self.assertTrue(all(type(row) is tuple for row in rows))

    def test_written_out(self):
        rows, marks = plan_of(BOOK, [("lock", "n"), ("all", "e"), ("free", "n"), ("up", "s"), ("add", "x", -BIG)])
        self.assertEqual(rows, [
            ("cas", "n", 0, 1, 3), ("swap", "n", 2, 0, 3), ("wait", "n", 2, 1, 1, -1),
            ("add", "e", 1, 0, 4), ("move", "e", "n", 1, 1000),
            ("swap", "n", 0, 1, 7), ("wake", "n", 1),
            ("add", "s", 1, 0, 8), ("wake", "s", 1),
            ("add", "x", -BIG, 0, 10),
        ])
        self.assertEqual(marks, [(), (), (), ("n",), ("n",), ("n",), (), (), (), (), ()])

    def test_a_try_written_out(self):
        rows, marks = plan_of(BOOK, [("lock", "m"), ("try", "c", "d", 7), ("free", "m")])
        self.assertEqual(rows, [
            ("cas", "m", 0, 1, 3), ("swap", "m", 2, 0, 3), ("wait", "m", 2, 1, 1, -1),
            ("if", "d", 7, 12), ("load", "c"), ("swap", "m", 0, 1, 7), ("wake", "m", 1), ("still", "c", 8, 8, 10),
            ("swap", "m", 2, 0, 3), ("wait", "m", 2, 8, 8, -1), ("swap", "m", 2, 0, 12), ("wait", "m", 2, 10, 10, -1),
            ("swap", "m", 0, 1, 14), ("wake", "m", 1),
        ])
        self.assertEqual(marks, [()] * 3 + [("m",)] * 3 + [()] * 6 + [("m",), (), ()])

    def test_at_the_first_place(self):
        for row in (("down", "s"), ("up", "t"), ("set", "d", BIG), ("add", "x", -BIG), ("set", "x", 0)):
            self.check([row])
        self.check([("lock", "m"), ("free", "m")])
        self.check([("lock", "n"), ("free", "n")])

    def test_behind_other_rows(self):
        for ahead in ([], [("up", "s")], [("set", "d", 1)] * 3, [("lock", "n"), ("free", "n"), ("down", "t")]):
            for row in (("down", "s"), ("up", "t"), ("set", "d", -BIG), ("add", "x", BIG)):
                self.check(ahead + [row])
            for word in ("rest", "call", "all"):
                for cond, lock in PARTS["conds"]:
                    self.check(ahead + [("lock", lock), (word, cond), ("free", lock)])
            for word in ("await", "try"):
                for cond, lock in PARTS["conds"]:
                    for cell in ("d", "x"):
                        self.check(ahead + [("lock", lock), (word, cond, cell, -BIG), ("free", lock)])

    def test_several_rows_one_behind_the_other(self):
        at_m = [("rest", "c"), ("await", "a", "d", 1), ("try", "c", "x", 2), ("call", "a"), ("all", "c"), ("up", "s")]
        for one in at_m:
            for two in at_m:
                self.check([("lock", "m"), one, two, one, ("free", "m"), ("lock", "m"), two, ("free", "m")])
        self.check([])

    def test_a_lock_and_its_conditions_with_other_locks_held(self):
        self.check([
            ("lock", "n"), ("lock", "m"), ("rest", "c"), ("await", "e", "d", 0), ("free", "n"), ("try", "a", "d", 0),
            ("free", "m"),
        ])

    def test_drawn_clients(self):
        chance = random.Random(34)
        for number in range(300):
            parts = plain_clients.some_book(chance)
            client = plain_clients.some_client(chance, parts, chance.randrange(16))
            self.assertEqual(plan_of(Book(**parts), client), plain_clients.built(parts, client)[:2])

    def test_refused_as_for_guest_0(self):
        for client, place in (([("free", "m")], 0), ([("up", "s"), ("lock", "m")], 2), ([("up", "s"), ("up", "d")], 1)):
            with self.assertRaises(BadClient) as caught:
                plan_of(BOOK, client)
            self.assertIs(type(caught.exception), BadClient)
            self.assertEqual(caught.exception.what, (0, place))

    def test_told_is_the_askers_own(self):
        client = [("lock", "m"), ("try", "c", "d", 7), ("free", "m")]
        before = list(client)
        rows, marks = plan_of(BOOK, client)
        kept = (list(rows), list(marks))
        rows.clear()
        marks.append(("m",))
        self.assertEqual(plan_of(BOOK, client), kept)
        self.assertEqual(client, before)


class Marks(unittest.TestCase):
    def marks(self, *client):
        return plan_of(BOOK, list(client))[1]

    def within(self, *row, ahead=("m",)):
        """The marks at the rows of that row, with these locks locked ahead in this order."""
        client = [("lock", lock) for lock in ahead] + [row]
        behind = [("free", lock) for lock in ahead if row != ("free", lock)]
        if row[0] == "lock":
            behind.append(("free", row[1]))
        first = 3 * len(ahead)
        return self.marks(*client, *behind)[first:first + len(rows_of(row, 0))]

    def test_the_end(self):
        self.assertEqual(self.marks(), [()])
        self.assertEqual(self.marks(("set", "d", 1)), [(), ()])
        self.assertEqual(self.marks(("lock", "m"), ("free", "m"))[-1], ())

    def test_locks_and_frees(self):
        m, n, both = ("m",), ("n",), ("m", "n")
        self.assertEqual(self.within("lock", "m", ahead=()), [(), (), ()])
        self.assertEqual(self.within("lock", "m", ahead=("n",)), [n, n, n])
        self.assertEqual(self.within("free", "m"), [m, ()])
        self.assertEqual(self.within("free", "m", ahead=("m", "n")), [both, n])
        self.assertEqual(self.within("free", "n", ahead=("n", "m")), [both, m])

    def test_rests(self):
        m, n, both = ("m",), ("n",), ("m", "n")
        self.assertEqual(self.within("rest", "c"), [m] * 2 + [()] * 4)
        self.assertEqual(self.within("rest", "c", ahead=("n", "m")), [both] * 2 + [n] * 4)
        self.assertEqual(self.within("rest", "e", ahead=("n", "m")), [both] * 2 + [m] * 4)

    def test_awaits(self):
        m, n, both = ("m",), ("n",), ("m", "n")
        self.assertEqual(self.within("await", "a", "d", 0), [m] * 3 + [()] * 4)
        self.assertEqual(self.within("await", "c", "d", 0, ahead=("n", "m")), [both] * 3 + [n] * 4)
        self.assertEqual(self.within("await", "e", "d", 0, ahead=("m", "n")), [both] * 3 + [m] * 4)

    def test_tries(self):
        m, n, both = ("m",), ("n",), ("m", "n")
        self.assertEqual(self.within("try", "a", "d", 0), [m] * 3 + [()] * 6)
        self.assertEqual(self.within("try", "c", "d", 0, ahead=("n", "m")), [both] * 3 + [n] * 6)
        self.assertEqual(self.within("try", "e", "d", 0, ahead=("m", "n")), [both] * 3 + [m] * 6)

    def test_rows_at_which_all_stay_held(self):
        m, both = ("m",), ("m", "n")
        for row in (("call", "c"), ("all", "c"), ("down", "s"), ("up", "s")):
            self.assertEqual(self.within(*row), [m, m])
            self.assertEqual(self.within(*row, ahead=("n", "m")), [both, both])
        for row in (("set", "d", 1), ("add", "d", 1)):
            self.assertEqual(self.within(*row), [m])
            self.assertEqual(self.within(*row, ahead=("n", "m")), [both])
        for row in (("down", "s"), ("up", "s")):
            self.assertEqual(self.within(*row, ahead=()), [(), ()])

    def test_the_row_behind_has_the_lock_again(self):
        for row in (("rest", "c"), ("await", "c", "d", 0), ("try", "c", "d", 0)):
            marks = self.marks(("lock", "m"), row, ("set", "d", 1), ("free", "m"))
            self.assertEqual(marks[-4:], [("m",), ("m",), (), ()])

    def test_three_locks_sorted(self):
        told = Book(locks=["o", "m", "n"], conds=[("c", "n")])
        client = [("lock", "o"), ("lock", "n"), ("lock", "m"), ("rest", "c"), ("free", "o"), ("free", "m"), ("free", "n")]
        marks = plan_of(told, client)[1]
        self.assertEqual(marks, [
            (), (), (), ("o",), ("o",), ("o",), ("n", "o"), ("n", "o"), ("n", "o"), ("m", "n", "o"), ("m", "n", "o"),
            ("m", "o"), ("m", "o"), ("m", "o"), ("m", "o"), ("m", "n", "o"), ("m", "n"), ("m", "n"), ("n",), ("n",), (), (),
        ])


class Worlds(unittest.TestCase):
    def test_rooms_and_numbers(self):
        world = Built(BOOK, [[("up", "s")], []]).world
        # a, c, d, e, m, n, s, t, x
        self.assertEqual(world.start(), ((0, 0, 5, 0, 0, 0, 2, BIG, -BIG), (0, 0), (0, 0), ((),) * 9))

    def test_guest_0_first(self):
        world = Built(BOOK, [[("set", "d", 7)], [("set", "d", 8)]]).world
        self.assertEqual(world.after(world.start(), ("step", 0))[0][2], 7)
        self.assertEqual(world.after(world.start(), ("step", 1))[0][2], 8)

    def test_the_plans_are_those_of_plan_of(self):
        chance = random.Random(341)
        for number in range(60):
            parts, clients, more = plain_clients.some_built(chance, chance.randrange(5), 8)
            world = Built(Book(**parts), clients, **more).world
            plain = plain_clients.world_of(parts, clients, **more)
            moves = drive(world, plain_clients.some_picks(chance, 60))
            state = plain_clients.plain_world.start(plain)
            for told, move in zip(run(world, moves), moves):
                self.assertEqual(told, state)
                self.assertEqual(world.can(told), plain_clients.plain_world.can(plain, state))
                self.assertIs(world.clash(told), plain_clients.plain_world.is_clash(plain, state))
                state = plain_clients.plain_world.after(plain, state, move)

    def test_marks_are_handed_on(self):
        world = Built(BOOK, [[("lock", "m"), ("free", "m")]] * 2).world
        start = world.start()
        self.assertFalse(world.clash(start))
        self.assertTrue(world.clash((start[0], (3, 3), start[2], start[3])))
        self.assertFalse(world.clash((start[0], (3, 4), start[2], start[3])))
        self.assertFalse(world.clash((start[0], (4, 5), start[2], start[3])))

    def test_ranks_are_handed_on(self):
        downs = [[("down", "z")]] * 3
        told = Book(counts=[("z", 0)])
        moves = [("step", guest) for guest in (0, 0, 1, 1, 2, 2)]
        for ranks, line in ((None, (0, 1, 2)), ([0, 0, 0], (0, 1, 2)), ([1, 3, 2], (1, 2, 0)), ([-BIG, 0, BIG], (2, 1, 0))):
            self.assertEqual(run(Built(told, downs, ranks=ranks).world, moves)[-1][3], (line,))
        self.assertEqual(run(Built(told, downs).world, moves)[-1][3], ((0, 1, 2),))

    def test_nudges_are_handed_on(self):
        told = Book(counts=[("z", 0)])
        for nudges, wanted in ((False, []), (True, [("nudge", 0)])):
            world = Built(told, [[("down", "z")]], nudges=nudges).world
            self.assertEqual(world.can(run(world, [("step", 0), ("step", 0)])[-1]), wanted)
        world = Built(told, [[("down", "z")]]).world
        self.assertEqual(world.can(run(world, [("step", 0), ("step", 0)])[-1]), [])

    def test_by_their_names(self):
        with self.assertRaises(TypeError):
            Built(BOOK, [], None)

    def test_what_is_handed_in_stays(self):
        clients = [[("lock", "m"), ("free", "m")], [("down", "s")]]
        ranks = [2, 1]
        handed = (clients, ranks)
        before = copy.deepcopy(handed)
        one = Built(BOOK, clients, ranks=ranks, nudges=True)
        start, moves = one.world.start(), drive(one.world, [1, 2, 3, 4, 5, 6])
        states, spots = run(one.world, moves), [one.spot(0, place) for place in range(6)]
        self.assertEqual(handed, before)
        clients[0].clear()
        clients[1][0] = ("up", "t")
        clients.append([("free", "m")])
        ranks.reverse()
        self.assertEqual(one.world.start(), start)
        self.assertEqual(drive(one.world, [1, 2, 3, 4, 5, 6]), moves)
        self.assertEqual(run(one.world, moves), states)
        self.assertEqual([one.spot(0, place) for place in range(6)], spots)

    def test_clients_as_tuples(self):
        one = Built(BOOK, ((("lock", "m"), ("free", "m")), ()))
        two = Built(BOOK, [[("lock", "m"), ("free", "m")], []])
        self.assertEqual(one.world.start(), two.world.start())
        self.assertEqual(drive(one.world, [0] * 9), drive(two.world, [0] * 9))

    def test_many(self):
        parts = {
            "locks": list("lm"), "conds": [("c", "m"), ("d", "l"), ("e", "m")], "counts": [(name, 1) for name in "stu"],
            "cells": [(name, BIG) for name in "wxyz"],
        }
        client = [("lock", "m"), ("lock", "l")] + [("try", "c", "w", 1)] * 10 + [("free", "l"), ("free", "m")]
        one = Built(Book(**parts), [client] * 8, ranks=list(range(8)), nudges=True)
        self.assertEqual(len(one.world.start()[0]), 12)
        self.assertEqual(one.spot(7, 95), (11, 8))
        self.assertEqual(one.spot(7, 100), (14, 0))


class Spots(unittest.TestCase):
    def test_each_place_of_each_kind(self):
        client = [
            ("lock", "m"), ("rest", "c"), ("await", "c", "d", 0), ("try", "a", "d", 0), ("call", "c"), ("all", "c"),
            ("down", "s"), ("up", "s"), ("set", "d", 1), ("add", "d", 1), ("free", "m"),
        ]
        wanted = []
        for at, row in enumerate(client):
            wanted += [(at, within) for within in range(len(rows_of(row, 0)))]
        wanted.append((11, 0))
        self.assertEqual(len(wanted), 3 + 6 + 7 + 9 + 2 + 2 + 2 + 2 + 1 + 1 + 2 + 1)
        one = Built(BOOK, [[], client, [("set", "d", 1)]])
        self.assertEqual([one.spot(1, place) for place in range(len(wanted))], wanted)
        self.assertEqual([one.spot(2, place) for place in range(2)], [(0, 0), (1, 0)])
        self.assertIs(type(one.spot(1, 0)), tuple)

    def test_a_client_without_rows(self):
        one = Built(BOOK, [[], [("up", "s")], []])
        self.assertEqual(one.spot(0, 0), (0, 0))
        self.assertEqual(one.spot(2, 0), (0, 0))
        self.assertEqual([one.spot(1, place) for place in range(3)], [(0, 0), (0, 1), (1, 0)])

    def test_drawn_clients(self):
        chance = random.Random(35)
        for number in range(100):
            parts, clients, more = plain_clients.some_built(chance, 3, 9)
            one = Built(Book(**parts), clients, **more)
            for guest, client in enumerate(clients):
                wanted = plain_clients.built(parts, client)[2]
                self.assertEqual([one.spot(guest, place) for place in range(len(wanted))], wanted)


class Body(unittest.TestCase):
    def test_each_listed_method_stands_in_its_class(self):
        self.assertIn("lock_of", vars(Book))
        self.assertIn("spot", vars(Built))
        self.assertIn("world", vars(Built(BOOK, [])))


if __name__ == "__main__":
    unittest.main()
