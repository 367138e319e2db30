"""Tales of weavings (points 2 and 36)."""

import copy
import random
import unittest

import plain_clients
from dozehall.building import Built
from dozehall.clients import Book
from dozehall.errors import NoMove
from dozehall.tales import tale
from dozehall.weaves import drive

BIG = int("9" * 60)
BOOK = Book(
    locks=["m", "l"], conds=[("c", "m"), ("e", "m")], counts=[("s", 0), ("t", 2)], cells=[("d", 0), ("x", 5)],
)
REST = [("lock", "m"), ("rest", "c"), ("free", "m")]
AWAIT = [("lock", "m"), ("await", "c", "d", 0), ("free", "m")]
TRY = [("lock", "m"), ("try", "c", "d", 0), ("free", "m")]
CALL = [("lock", "m"), ("call", "c"), ("free", "m")]
EVERYBODY = [("lock", "m"), ("all", "c"), ("free", "m")]
# The steps by which a guest, with the lock free, comes to lie at the still row: behind a rest, and behind the others.
TO_REST = {"rest": 4, "await": 5, "try": 5}


def steps(*guests):
    return [("step", guest) for guest in guests]


class Tales(unittest.TestCase):
    def events(self, built, moves):
        """One event or None for each move."""
        told, before = [], []
        for place in range(len(moves)):
            then = tale(built, moves[:place + 1])
            self.assertEqual(then[:len(before)], before)
            self.assertLessEqual(len(then), len(before) + 1)
            told.append(then[-1] if len(then) > len(before) else None)
            before = then
        self.assertEqual(tale(built, moves), before)
        return told

    def check(self, clients, moves, wanted, **more):
        built = Built(BOOK, clients, **more)
        self.assertEqual(self.events(built, moves), wanted)
        for event in tale(built, moves):
            self.assertIs(type(event), tuple)

    def behind(self, clients, ahead, moves, wanted, **more):
        """The events of the moves behind those ahead."""
        built = Built(BOOK, clients, **more)
        self.assertEqual(self.events(built, ahead + moves)[len(ahead):], wanted)

    def test_without_moves(self):
        self.assertEqual(tale(Built(BOOK, [REST, CALL]), []), [])
        self.assertEqual(tale(Built(Book(), []), []), [])

    def test_a_lock_by_cas_and_a_free_that_found_1(self):
        client = [("lock", "m"), ("free", "m"), ("lock", "l"), ("free", "l")]
        self.check([client], steps(0, 0, 0, 0), [("takes", 0, "m"), ("frees", 0, "m"), ("takes", 0, "l"), ("frees", 0, "l")])

    def test_a_lock_by_swap_and_a_free_that_found_2(self):
        client = [("lock", "m"), ("free", "m")]
        self.check([client, client], steps(1, 0, 0, 0, 1, 1, 0, 0, 0), [
            ("takes", 1, "m"),
            None,  # a cas that found 1
            None,  # a swap that found 1
            None,  # a wait
            ("frees", 1, "m"),  # found 2
            None,  # its wake
            ("takes", 0, "m"),  # a swap that found 0
            ("frees", 0, "m"),  # found 2
            None,
        ])

    def test_a_cas_and_a_swap_that_found_2(self):
        client = [("lock", "m"), ("free", "m")]
        self.check([client] * 3, steps(0, 1, 1, 2, 2), [("takes", 0, "m"), None, None, None, None])

    def test_a_wait_that_is_passed(self):
        client = [("lock", "m"), ("free", "m")]
        self.check([client] * 2, steps(0, 1, 1, 0, 1, 1), [
            ("takes", 0, "m"), None, None, ("frees", 0, "m"), None, ("takes", 1, "m"),
        ])

    def test_a_rest(self):
        self.check([REST], steps(0, 0, 0, 0), [("takes", 0, "m"), None, ("rests", 0, "c"), ("sleeps", 0, "c")])

    def test_a_rest_whose_swap_found_2(self):
        other = [("lock", "m"), ("free", "m")]
        self.check([REST, other], steps(0, 1, 1, 1, 0, 0, 0, 0), [
            ("takes", 0, "m"), None, None, None,
            None,  # load
            ("rests", 0, "c"),
            None,  # the wake of the lock
            ("sleeps", 0, "c"),
        ])

    def test_a_rest_that_does_not_lie_down(self):
        moves = steps(0, 0, 0, 1, 1, 1, 0, 1, 0, 0)
        self.check([REST, CALL], moves, [
            ("takes", 0, "m"), None, ("rests", 0, "c"),
            ("takes", 1, "m"), ("calls", 1, "c"), ("rouses", 1, "c", (), ()),
            ("back", 0, "c"),
            ("frees", 1, "m"),
            ("takes", 0, "m"),
            ("frees", 0, "m"),
        ])

    def test_an_if_row_that_finds_k(self):
        for word in ("await", "try"):
            client = [("lock", "m"), (word, "c", "d", 0), ("free", "m")]
            self.check([client], steps(0, 0, 0, 0, 0), [
                ("takes", 0, "m"), ("sees", 0, "d", 0), None, ("rests", 0, "c"), ("sleeps", 0, "c"),
            ])

    def test_an_if_row_that_does_not(self):
        for word in ("await", "try"):
            client = [("lock", "m"), (word, "c", "x", 0), ("free", "m")]
            self.check([client], steps(0, 0, 0), [("takes", 0, "m"), ("sees", 0, "x", 5), ("frees", 0, "m")])

    def test_woken_and_taking_the_lock_again(self):
        for word in ("rest", "await", "try"):
            client = [("lock", "m"), (word, "c", "d", 0)[:2 if word == "rest" else 4], ("free", "m")]
            ahead = steps(*[0] * TO_REST[word])
            self.behind([client, CALL], ahead, steps(1, 1, 1, 0, 0, 1, 1, 0), [
                ("takes", 1, "m"), ("calls", 1, "c"), ("rouses", 1, "c", (0,), ()),
                None,  # a swap to 2 that found 1
                None,  # a wait
                ("frees", 1, "m"), None,
                ("takes", 0, "m"),  # a swap to 2 that found 0
            ])
            self.behind([client, CALL, [("lock", "m"), ("free", "m")]], ahead, steps(1, 1, 1, 2, 2, 0), [
                ("takes", 1, "m"), ("calls", 1, "c"), ("rouses", 1, "c", (0,), ()), None, None,
                None,  # a swap to 2 that found 2
            ])

    def test_an_await_looks_again(self):
        moves = steps(1, 1, 1, 1, 0, 0)
        self.behind([AWAIT, CALL], steps(0, 0, 0, 0, 0), moves, [
            ("takes", 1, "m"), ("calls", 1, "c"), ("rouses", 1, "c", (0,), ()), ("frees", 1, "m"),
            ("takes", 0, "m"), ("sees", 0, "d", 0),
        ])

    def test_a_late_end(self):
        ahead = steps(0, 0, 0, 0, 0)
        self.behind([TRY], ahead, [("late", 0)] + steps(0, 0), [("late", 0, "c"), ("takes", 0, "m"), ("frees", 0, "m")])
        # Behind a late end, too, the lock is taken only by a swap that found 0.
        self.behind([TRY, CALL], ahead, [("step", 1), ("late", 0)] + steps(0, 0, 1, 1, 1, 1, 0), [
            ("takes", 1, "m"), ("late", 0, "c"), None, None, ("calls", 1, "c"), ("rouses", 1, "c", (), ()),
            ("frees", 1, "m"), None, ("takes", 0, "m"),
        ])

    def test_a_late_end_of_a_guest_that_was_moved(self):
        ahead = steps(1, 1, 1, 1, 0, 0, 0, 0, 0)
        self.behind([TRY, REST, EVERYBODY], ahead, steps(2, 2, 2) + [("late", 0)] + steps(2, 0), [
            ("takes", 2, "m"), ("calls", 2, "c"), ("rouses", 2, "c", (1,), (0,)), ("late", 0, "c"), ("frees", 2, "m"),
            ("takes", 0, "m"),
        ])

    def test_a_nudge_at_the_still_row(self):
        for client, many in ((REST, 4), (AWAIT, 5), (TRY, 5)):
            self.behind([client], steps(*[0] * many), [("nudge", 0)] + steps(0), [("nudged", 0, "c"), ("takes", 0, "m")], nudges=True)

    def test_a_nudge_of_a_guest_that_was_moved(self):
        for client, many in ((REST, 4), (AWAIT, 5), (TRY, 5)):
            ahead = steps(*[1] * 4, *[0] * many)
            self.behind([client, REST, EVERYBODY], ahead, steps(2, 2, 2) + [("nudge", 0)] + steps(0), [
                ("takes", 2, "m"), ("calls", 2, "c"), ("rouses", 2, "c", (1,), (0,)), ("nudged", 0, "c"), None,
            ], nudges=True)

    def test_a_nudge_at_a_wait_row(self):
        client = [("lock", "m"), ("free", "m")]
        self.check([client, client], steps(0, 1, 1, 1) + [("nudge", 1), ("step", 1)], [
            ("takes", 0, "m"), None, None, None, None, None,
        ], nudges=True)
        self.check([[("down", "s")]], steps(0, 0) + [("nudge", 0), ("step", 0)], [None] * 4, nudges=True)
        # A guest that waits for its condition's lock, at a rest, an await, a try, and behind a late end.
        for word in ("rest", "await", "try"):
            row = (word, "c", "d", 0)[:2 if word == "rest" else 4]
            ahead = steps(*[0] * TO_REST[word], 1) + [("nudge", 0)] + steps(0, 0)
            self.behind([[("lock", "m"), row, ("free", "m")], CALL], ahead, [("nudge", 0)], [None], nudges=True)
        ahead = steps(0, 0, 0, 0, 0, 1) + [("late", 0)] + steps(0, 0)
        self.behind([TRY, CALL], ahead, [("nudge", 0)], [None], nudges=True)

    def rousing(self, client, resting, wanted, ranks=None):
        """The event of the wake or move of guest 0, with so many others resting at c, in the order of their numbers."""
        clients = [client] + [REST] * resting
        ahead = [("step", guest) for guest in range(1, resting + 1) for number in range(4)] + steps(0, 0)
        self.behind(clients, ahead, steps(0), [wanted], ranks=ranks)

    def test_rouses_at_a_call(self):
        self.rousing(CALL, 0, ("rouses", 0, "c", (), ()))
        self.rousing(CALL, 1, ("rouses", 0, "c", (1,), ()))
        self.rousing(CALL, 2, ("rouses", 0, "c", (1,), ()))
        self.rousing(CALL, 4, ("rouses", 0, "c", (1,), ()))
        self.rousing(CALL, 3, ("rouses", 0, "c", (2,), ()), ranks=[0, 1, 2, 2])
        self.rousing(CALL, 3, ("rouses", 0, "c", (3,), ()), ranks=[9, -BIG, 0, BIG])

    def test_rouses_at_an_all(self):
        self.rousing(EVERYBODY, 0, ("rouses", 0, "c", (), ()))
        self.rousing(EVERYBODY, 1, ("rouses", 0, "c", (1,), ()))
        self.rousing(EVERYBODY, 2, ("rouses", 0, "c", (1,), (2,)))
        self.rousing(EVERYBODY, 4, ("rouses", 0, "c", (1,), (2, 3, 4)))
        self.rousing(EVERYBODY, 4, ("rouses", 0, "c", (4,), (2, 3, 1)), ranks=[0, -1, 0, 0, 1])
        self.rousing(EVERYBODY, 5, ("rouses", 0, "c", (5,), (3, 4, 1, 2)), ranks=[0, 1, 1, 2, 2, 3])
        self.rousing(EVERYBODY, 7, ("rouses", 0, "c", (1,), (2, 3, 4, 5, 6, 7)))

    def test_those_moved_are_told_as_they_lay_whoever_lies_at_the_lock(self):
        clients = [EVERYBODY, REST, REST, REST, [("lock", "m"), ("free", "m")]]
        ahead = steps(*[1] * 4, *[2] * 4, *[3] * 4, 0, 4, 4, 4, 0)
        self.behind(clients, ahead, steps(0), [("rouses", 0, "c", (2,), (3, 1))], ranks=[0, 1, 2, 2, 0])

    def test_those_at_another_condition_are_not_told(self):
        other = [("lock", "m"), ("rest", "e"), ("free", "m")]
        for client in (CALL, EVERYBODY):
            clients = [client, other, REST]
            self.behind(clients, steps(1, 1, 1, 1, 2, 2, 2, 2, 0, 0), steps(0), [("rouses", 0, "c", (2,), ())])

    def test_rows_of_another_condition(self):
        call = [("lock", "m"), ("call", "e"), ("all", "e"), ("free", "m")]
        self.check([call], steps(0, 0, 0, 0, 0), [
            ("takes", 0, "m"), ("calls", 0, "e"), ("rouses", 0, "e", (), ()), ("calls", 0, "e"), ("rouses", 0, "e", (), ()),
        ])

    def test_downs_and_ups(self):
        self.check([[("down", "t")] * 3], steps(0, 0, 0, 0), [("downs", 0, "t"), ("downs", 0, "t"), None, None])
        self.check([[("down", "s")], [("up", "s")]], steps(0, 0, 1, 1, 0), [
            None,  # a take that found 0
            None,  # a wait
            ("ups", 1, "s"),
            None,  # its wake
            ("downs", 0, "s"),
        ])
        self.check([[("down", "s")], [("up", "s")]], steps(0, 1, 0, 0, 1), [None, ("ups", 1, "s"), None, ("downs", 0, "s"), None])

    def test_sets_with_the_number_that_the_cell_has_then(self):
        client = [("set", "d", 7), ("add", "d", -9), ("add", "x", 0), ("set", "x", 5), ("add", "d", BIG), ("add", "d", BIG)]
        self.check([client], steps(0, 0, 0, 0, 0, 0), [
            ("sets", 0, "d", 7), ("sets", 0, "d", -2), ("sets", 0, "x", 5), ("sets", 0, "x", 5), ("sets", 0, "d", BIG - 2),
            ("sets", 0, "d", 2 * BIG - 2),
        ])
        self.check([[("add", "d", -BIG)], [("set", "d", -BIG)], [("add", "d", 0)]], steps(0, 2, 1), [
            ("sets", 0, "d", -BIG), ("sets", 2, "d", -BIG), ("sets", 1, "d", -BIG),
        ])

    def test_sees_big_numbers(self):
        client = [("add", "d", BIG), ("add", "d", BIG), ("lock", "m"), ("await", "c", "d", 0), ("free", "m")]
        self.check([client], steps(0, 0, 0, 0), [
            ("sets", 0, "d", BIG), ("sets", 0, "d", 2 * BIG), ("takes", 0, "m"), ("sees", 0, "d", 2 * BIG),
        ])

    def test_moves_that_are_not_possible(self):
        built = Built(BOOK, [REST, CALL])
        for moves, place in (
            ([("late", 0)], 0),
            (steps(2), 0),
            (steps(-1), 0),
            (steps(0, 0, 0, 0, 0), 4),
            (steps(0, 0, 0, 0) + [("late", 0)], 4),
            (steps(0, 0, 0, 0) + [("nudge", 0)] + steps(9), 4),
            (steps(0, 1) + [("zzz", 1)] + steps(9), 2),
            (steps(1, 1, 1, 1, 1), 4),
        ):
            with self.subTest(moves=moves):
                before = list(moves)
                for again in range(2):
                    with self.assertRaises(NoMove) as caught:
                        tale(built, moves)
                    self.assertIs(type(caught.exception), NoMove)
                    self.assertEqual(caught.exception.what, place)
                self.assertEqual(moves, before)

    def test_handed_in_lists_stay_and_told_ones_are_the_askers_own(self):
        clients = [list(REST), list(CALL)]
        before = copy.deepcopy(clients)
        built = Built(BOOK, clients)
        moves = steps(0, 0, 0, 0, 1, 1, 1)
        told = tale(built, moves)
        self.assertEqual(moves, steps(0, 0, 0, 0, 1, 1, 1))
        self.assertEqual(clients, before)
        clients[0][1] = ("set", "d", 1)
        clients[1].clear()
        tale(built, moves).clear()
        again = list(moves)
        moves.clear()
        self.assertEqual(tale(built, again), told)
        self.assertEqual(len(told), 6)

    def test_drawn_weavings(self):
        chance = random.Random(36)
        words = set()
        for number in range(600):
            some = chance.choice([plain_clients.some_built, plain_clients.some_meeting])
            parts, clients, more = some(chance, chance.randrange(1, 6), 6)
            built = Built(Book(**parts), clients, **more)
            moves = drive(built.world, plain_clients.some_picks(chance, 120))
            told = tale(built, moves)
            self.assertEqual(told, plain_clients.tale(parts, clients, moves, **more))
            words.update(event[0] for event in told)
        self.assertEqual(sorted(words), sorted([
            "takes", "frees", "sees", "rests", "sleeps", "back", "calls", "rouses", "late", "nudged", "downs", "ups", "sets",
        ]))


if __name__ == "__main__":
    unittest.main()
