"""Weavings: run, drive, by_turns, careful (points 24 to 26)."""

import copy
import random
import unittest

import plain_world
from dozehall.errors import NoMove
from dozehall.weaves import by_turns, careful, drive, run
from dozehall.worlds import World

BIG = int("9" * 60)
LOCK = [
    ("cas", "m", 0, 1, 3), ("swap", "m", 2, 0, 3), ("wait", "m", 2, 1, 1, -1),
    ("swap", "m", 0, 1, 5), ("wake", "m", 1),
]
ROUND = [("if", "a", 1, 0)]


def steps(*guests):
    return [("step", guest) for guest in guests]


class Run(unittest.TestCase):
    def test_states(self):
        world = World({"m": 0}, [LOCK, LOCK])
        self.assertEqual(run(world, steps(0, 1, 1, 1, 0, 0, 1)), [
            ((0,), (0, 0), (0, 0), ((),)),
            ((1,), (3, 0), (0, 0), ((),)),
            ((1,), (3, 1), (0, 0), ((),)),
            ((2,), (3, 2), (0, 0), ((),)),
            ((2,), (3, 2), (0, 0), ((1,),)),
            ((0,), (4, 2), (0, 0), ((1,),)),
            ((0,), (5, 1), (0, 0), ((),)),
            ((2,), (5, 3), (0, 0), ((),)),
        ])

    def test_no_moves(self):
        world = World({"m": 0}, [LOCK, LOCK])
        self.assertEqual(run(world, []), [world.start()])
        self.assertEqual(run(World({"a": 1}, []), []), [((1,), (), (), ((),))])

    def test_late_ends_and_nudges(self):
        world = World({"a": 0}, [[("wait", "a", 0, 3, 2, 1), ("load", "a"), ("load", "a")]], nudges=True)
        self.assertEqual([state[1] for state in run(world, [("step", 0), ("late", 0), ("step", 0)])], [
            (0,), (0,), (1,), (2,),
        ])
        self.assertEqual([state[1] for state in run(world, [("step", 0), ("nudge", 0), ("step", 0)])], [
            (0,), (0,), (2,), (3,),
        ])

    def test_refused_at_the_place(self):
        world = World({"m": 0}, [LOCK, LOCK])
        for moves, place in (
            ([("late", 0)], 0),
            ([("step", 2)], 0),
            ([("step", -1)], 0),
            (steps(0, 1, 1, 1, 1), 4),
            (steps(0, 1, 1, 1) + [("nudge", 1)] + steps(7, 7), 4),
            (steps(0, 0, 0), 2),
            (steps(0, 1, 1, 1) + [("late", 1)], 4),
            (steps(0, 0, 1, 1) + [("zzz", 1)], 4),
        ):
            with self.subTest(moves=moves):
                before = list(moves)
                for again in range(2):
                    with self.assertRaises(NoMove) as caught:
                        run(world, moves)
                    self.assertEqual(caught.exception.what, place)
                    self.assertIs(type(caught.exception.what), int)
                self.assertEqual(moves, before)

    def test_by_names_and_handed_in_lists_stay(self):
        world = World({"m": 0}, [LOCK, LOCK])
        moves = steps(0, 1)
        told = run(moves=moves, world=world)
        self.assertEqual(told, run(world, moves))
        self.assertEqual(moves, steps(0, 1))
        again = run(world, moves)
        moves.clear()
        again.clear()
        self.assertEqual(run(world, steps(0, 1)), told)


class Drive(unittest.TestCase):
    def test_picks(self):
        world = World({"a": 0}, [[("load", "a")] * 9] * 3)
        picks = [0, 1, 2, 3, 4, 5, -1, -2, -3, -4, 3 * BIG, 3 * BIG + 1, -3 * BIG - 1]
        self.assertEqual(drive(world, picks), steps(0, 1, 2, 0, 1, 2, 2, 1, 0, 2, 0, 1, 2))

    def test_among_those_that_are_possible(self):
        world = World({"a": 0}, [[("wait", "a", 0, 1, 1, 1)], [("wait", "a", 0, 1, 1, -1)]], nudges=True)
        self.assertEqual(drive(world, [1]), steps(1))
        self.assertEqual(drive(world, [1, 1]), [("step", 1), ("nudge", 1)])
        self.assertEqual(drive(world, [1, 2]), [("step", 1), ("step", 0)])
        self.assertEqual(drive(world, [0, 0, 0]), [("step", 0), ("step", 1), ("late", 0)])
        self.assertEqual(drive(world, [0, 0, -1, -1]), [("step", 0), ("step", 1), ("nudge", 1), ("nudge", 0)])

    def test_behind_the_last_possible_move(self):
        world = World({"a": 0}, [[("load", "a")] * 2])
        self.assertEqual(drive(world, [5, 5, 5, 5]), steps(0, 0))
        self.assertEqual(drive(world, [5]), steps(0))
        self.assertEqual(drive(world, []), [])
        self.assertEqual(drive(World({"a": 0}, []), [1, 2]), [])
        self.assertEqual(drive(World({"a": 0}, [[("wait", "a", 0, 0, 0, -1)]]), [1, 2]), steps(0))

    def test_by_names_and_handed_in_lists_stay(self):
        world = World({"m": 0}, [LOCK, LOCK])
        picks = [1, 0, BIG, -7]
        told = drive(picks=picks, world=world)
        self.assertEqual(picks, [1, 0, BIG, -7])
        again = drive(world, picks)
        again.clear()
        self.assertEqual(drive(world, picks), told)

    def test_what_is_told_is_a_weaving(self):
        chance = random.Random(3)
        for number in range(300):
            rooms, plans, more = plain_world.some_world(chance, chance.randrange(5), 6)
            world = World(rooms, plans, **more)
            plain = plain_world.plain_world(rooms, plans, **more)
            picks = [chance.randrange(-BIG, BIG) for pick in range(40)]
            state, wanted, states = plain_world.start(plain), [], [plain_world.start(plain)]
            for pick in picks:
                possible = plain_world.can(plain, state)
                self.assertEqual(world.can(state), possible)
                self.assertTrue(world.is_state(state))
                self.assertIs(world.clash(state), plain_world.is_clash(plain, state))
                self.assertIs(world.ended(state), plain_world.is_ended(plain, state))
                self.assertIs(world.stuck(state), plain_world.is_stuck(plain, state))
                if possible:
                    wanted.append(possible[pick % len(possible)])
                    state = plain_world.after(plain, state, wanted[-1])
                    self.assertEqual(world.after(states[-1], wanted[-1]), state)
                    states.append(state)
            self.assertEqual(drive(world, picks), wanted)
            self.assertEqual(run(world, wanted), states)


class ByTurns(unittest.TestCase):
    def test_by_turns(self):
        world = World({"a": 0}, [[("load", "a")] * many for many in (2, 1, 3)])
        self.assertEqual(by_turns(world, world.start()), steps(0, 1, 2, 0, 2, 2))
        self.assertEqual(by_turns(world, ((0,), (1, 0, 2), (0,) * 3, ((),))), steps(0, 1, 2))

    def test_most(self):
        world = World({"a": 0}, [[("load", "a")] * many for many in (2, 1, 3)])
        for most in range(-2, 9):
            self.assertEqual(by_turns(world, world.start(), most=most), steps(0, 1, 2, 0, 2, 2)[:max(most, 0)])
        self.assertEqual(by_turns(world, world.start(), most=-BIG), [])
        self.assertEqual(by_turns(world, world.start(), most=BIG), steps(0, 1, 2, 0, 2, 2))

    def test_from_guest_0_on_in_whatever_state(self):
        world = World({"a": 0}, [[("load", "a")] * 3] * 3)
        state = run(world, steps(0, 1))[-1]
        self.assertEqual(by_turns(world, state), steps(0, 1, 2, 0, 1, 2, 2))
        self.assertEqual(by_turns(world, state, most=2), steps(0, 1))

    def test_round_for_ever(self):
        world = World({"a": 0}, [ROUND, []])
        self.assertEqual(by_turns(world, world.start()), steps(0) * 4000)
        self.assertEqual(by_turns(world, world.start(), most=7), steps(0) * 7)
        both = World({"a": 0}, [ROUND, ROUND, ROUND])
        told = by_turns(both, both.start())
        self.assertEqual(told, (steps(0, 1, 2) * 1334)[:4000])

    def test_steps_alone(self):
        world = World({"a": 0}, [[("wait", "a", 0, 1, 1, 1)], [("load", "a")]], nudges=True)
        self.assertEqual(by_turns(world, world.start()), steps(0, 1))
        self.assertEqual(by_turns(world, ((0,), (0, 1), (0, 0), ((0,),))), [])

    def test_one_that_wakes_another_in_its_turn(self):
        world = World({"a": 0}, [[("wait", "a", 0, 1, 1, -1), ("load", "a")], [("wake", "a", 1), ("load", "a")]])
        self.assertEqual(by_turns(world, world.start()), steps(0, 1, 0, 1))
        world = World({"a": 0}, [[("load", "a"), ("wake", "a", 1)], [("wait", "a", 0, 1, 1, -1), ("load", "a")]])
        self.assertEqual(by_turns(world, world.start()), steps(0, 1, 0, 1))

    def test_nobody(self):
        world = World({"a": 0}, [])
        self.assertEqual(by_turns(world, world.start()), [])
        world = World({"a": 0}, [[], []])
        self.assertEqual(by_turns(world, world.start()), [])

    def test_told_is_the_askers_own(self):
        world = World({"m": 0}, [LOCK, LOCK, LOCK])
        told = by_turns(world, world.start())
        by_turns(world, world.start()).clear()
        self.assertEqual(by_turns(world, world.start()), told)
        self.assertTrue(world.ended(run(world, told)[-1]))
        with self.assertRaises(TypeError):
            by_turns(world, world.start(), 5)


class Careful(unittest.TestCase):
    def careful(self, *plans):
        return careful(World({"a": 0, "b": 0}, list(plans)))

    def test_careful_ones(self):
        self.assertIs(self.careful(), True)
        self.assertIs(self.careful([], []), True)
        self.assertIs(self.careful([("load", "a"), ("if", "a", 0, 0), ("wait", "a", 0, 0, 0, 0)]), True)
        self.assertIs(self.careful([("still", "a", 1, 1, 1), ("wake", "b", 0)]), True)
        for word in ("add", "cas", "swap"):
            self.assertIs(self.careful([(word, "a", 1, 1, 1), ("wake", "a", 1)]), True)
        self.assertIs(self.careful([("take", "a", 1), ("wake", "a", 1)]), True)
        self.assertIs(self.careful([("set", "a", 1), ("wake", "a", 1)]), True)
        self.assertIs(self.careful([("set", "a", 1), ("wake", "a", 2)], []), True)
        self.assertIs(self.careful([("set", "a", 1), ("wake", "a", BIG)], [], []), True)
        self.assertIs(self.careful([
            ("wake", "a", 1), ("cas", "a", 1, 1, 0), ("wake", "a", 1), ("set", "b", 1), ("wake", "b", 1),
        ]), True)

    def test_a_move(self):
        self.assertIs(self.careful([("move", "a", "b", 1, 1)]), False)
        self.assertIs(self.careful([], [("load", "a"), ("move", "a", "b", 0, 0)]), False)

    def test_no_wake_next(self):
        for row in (("set", "a", 1), ("add", "a", 1, 1, 2), ("cas", "a", 1, 1, 2), ("swap", "a", 1, 1, 2), ("take", "a", 2)):
            good = ("wake", "a", 1)
            self.assertIs(self.careful([row, good, good]), True)
            for bad in (("load", "a"), ("wake", "b", 1), ("wake", "a", 0), ("wait", "a", 0, 0, 0, 0), ("if", "a", 1, 1)):
                self.assertIs(self.careful([row, bad, good]), False)
                if row[0] != "set":
                    self.assertIs(self.careful([row, good, bad]), False)
            self.assertIs(self.careful([good, good, row]), False)
            self.assertIs(self.careful([("load", "a")], [row, good, good]), False)

    def test_to_its_end(self):
        self.assertIs(self.careful([("set", "a", 1)]), False)
        self.assertIs(self.careful([("cas", "a", 1, 1, 2), ("wake", "a", 1)]), False)
        self.assertIs(self.careful([("take", "a", 0)]), False)

    def test_too_few(self):
        plan = [("set", "a", 1), ("wake", "a", 2)]
        self.assertIs(self.careful(plan, []), True)
        self.assertIs(self.careful(plan, [], []), False)
        self.assertIs(self.careful([], [], plan), False)

    def test_behind_each_row_whether_a_way_leads_to_it_or_not(self):
        self.assertIs(self.careful([("if", "a", 0, 2), ("if", "a", 0, 0), ("load", "a"), ("set", "a", 1)]), False)
        self.assertIs(self.careful([("cas", "a", 0, 0, 1), ("wake", "a", 1), ("take", "a", 1), ("wake", "b", 1)]), False)

    def test_the_last_plan_too(self):
        good = [("set", "a", 1), ("wake", "a", 3)]
        self.assertIs(self.careful(good, good, good), True)
        self.assertIs(self.careful(good, good, [("set", "a", 1)]), False)

    def test_what_it_is_good_for(self):
        # In careful worlds who sleeps though the number is another has a wake of its room ahead of it.
        chance = random.Random(8)
        seen = 0
        for number in range(4000):
            rooms, plans, more = plain_world.some_world(chance, chance.randrange(1, 4), 3)
            plans = [self.with_wakes(plan, len(plans)) for plan in plans]
            more.pop("marks", None)
            world = World(rooms, plans, **more)
            if careful(world):
                seen += self.walk(world, plans, drive(world, [chance.randrange(99) for pick in range(25)]))
        self.assertGreater(seen, 50)

    def with_wakes(self, plan, many):
        """Each row at twice its place, with a wake of its room behind it; no moves."""
        rows = []
        for place, row in enumerate(plan):
            if row[0] == "move":
                row = ("load", row[1])
            if row[0] in ("add", "cas", "swap", "take"):
                row = row[:-1] + (2 * place + 1,)
            elif row[0] == "if":
                row = row[:-1] + (2 * row[-1],)
            elif row[0] in ("wait", "still"):
                row = row[:-3] + tuple(2 * part if part != -1 else -1 for part in row[-3:])
            rows.extend([row, ("wake", row[1], many)])
        return rows

    def walk(self, world, plans, moves):
        """How often somebody lay in a line whose number was another than when it lay down."""
        seen, kept = 0, {}
        states = run(world, moves)
        for state, move, then in zip(states, moves, states[1:]):
            lying = {guest: seat for seat, line in enumerate(then[3]) for guest in line}
            kept = {guest: kept.get(guest, then[0][lying[guest]]) for guest in lying}
            for guest, seat in lying.items():
                if then[0][seat] != kept[guest]:
                    seen += 1
                    name = sorted({"a", "b", "c"})[seat]
                    awake = [other for other in range(len(then[1])) if other not in lying]
                    rows = [(plans[other] + [("end", "")])[then[1][other]] for other in awake]
                    self.assertTrue([row for row in rows if row[:2] == ("wake", name) and row[2] >= len(then[1])])
        return seen


class Throughout(unittest.TestCase):
    def test_worlds_stay(self):
        plans = [list(LOCK), list(LOCK)]
        world = World({"m": 0}, plans, nudges=True)
        before = copy.deepcopy(vars(world))
        run(world, steps(0, 1)), drive(world, [3, 4, 5]), by_turns(world, world.start()), careful(world)
        self.assertEqual(vars(world), before)


if __name__ == "__main__":
    unittest.main()
