"""Hope and traps, and their papers (point 30)."""

import copy
import random
import unittest

import plain_world
from dozehall.errors import TooMany
from dozehall.hopes import hope, hope_holds
from dozehall.weaves import run
from dozehall.worlds import World

BIG = int("9" * 60)
LOCK = [
    ("cas", "m", 0, 1, 3), ("swap", "m", 2, 0, 3), ("wait", "m", 2, 1, 1, -1),
    ("swap", "m", 0, 1, 5), ("wake", "m", 1),
]
SLEEPY = [("wait", "m", 0, 1, 1, -1)]
# May go round for ever, but need not.
ROUND = [("if", "m", 1, 0), ("load", "m")]


def steps(*guests):
    return [("step", guest) for guest in guests]


def lock(guests=2, nudges=True):
    return World({"m": 0}, [LOCK] * guests, nudges=nudges)


class Hope(unittest.TestCase):
    def test_the_fewest_steps(self):
        world = World({"m": 0}, [[("set", "m", 2), ("load", "m")]])
        self.assertEqual(hope(world), ("hope", [
            (((0,), (0,), (0,), ((),)), 2),
            (((2,), (1,), (0,), ((),)), 1),
            (((2,), (2,), (2,), ((),)), 0),
        ]))

    def test_without_guests(self):
        world = World({"m": 5}, [])
        self.assertEqual(hope(world), ("hope", [(((5,), (), (), ((),)), 0)]))
        self.assertIs(hope_holds(world, hope(world)), True)

    def test_late_ends_count(self):
        world = World({"m": 0}, [[("wait", "m", 0, 1, 1, 1)]])
        self.assertEqual(hope(world), ("hope", [
            (((0,), (0,), (0,), ((),)), 2),
            (((0,), (0,), (0,), ((0,),)), 1),
            (((0,), (1,), (0,), ((),)), 0),
        ]))

    def test_nudges_do_not_count(self):
        # A nudge leads to the end at once, a late end by way of another row.
        world = World({"m": 0}, [[("wait", "m", 0, 0, 2, 1), ("load", "m")]], nudges=True)
        self.assertEqual(dict(hope(world)[1])[world.start()], 3)
        trap = World({"m": 0}, [SLEEPY], nudges=True)
        self.assertEqual(hope(trap)[0], "trap")

    def test_states_that_only_nudges_lead_to_are_told(self):
        world = World({"m": 0}, [[("wait", "m", 0, 3, 1, 3), ("load", "m"), ("load", "m")]], nudges=True)
        word, pairs = hope(world)
        self.assertEqual(word, "hope")
        self.assertEqual([(state[1], left) for state, left in pairs], [
            ((0,), 2), ((0,), 1), ((1,), 2), ((2,), 1), ((3,), 0),
        ])

    def test_one_that_may_go_round_for_ever(self):
        world = World({"m": 0}, [ROUND, [("set", "m", 1)]])
        word, pairs = hope(world)
        self.assertEqual(word, "hope")
        self.assertEqual(dict(pairs)[world.start()], 3)

    def test_kinds_of_values(self):
        word, pairs = hope(lock())
        self.assertEqual((type(hope(lock())), type(pairs), type(pairs[0])), (tuple, list, tuple))
        told = hope(World({"m": 0}, [SLEEPY]))
        self.assertEqual([type(told)] + [type(part) for part in told], [tuple, str, list, list])

    def test_a_trap(self):
        world = World({"m": 0}, [SLEEPY])
        word, moves, states = hope(world)
        self.assertEqual(word, "trap")
        self.assertIn((moves, states), (
            ([], [((0,), (0,), (0,), ((),)), ((0,), (0,), (0,), ((0,),))]),
            (steps(0), [((0,), (0,), (0,), ((0,),))]),
        ))
        self.assertIs(hope_holds(world, (word, moves, states)), True)

    def test_a_trap_of_one_that_goes_round_for_ever(self):
        world = World({"m": 0}, [[("if", "m", 1, 0)]])
        self.assertEqual(hope(world), ("trap", [], [((0,), (0,), (0,), ((),))]))

    def test_a_trap_that_only_one_way_leads_to(self):
        world = World({"m": 0}, [ROUND, [("cas", "m", 0, 5, 2), ("set", "m", 1)], [("cas", "m", 0, 1, 1)]])
        word, moves, states = hope(world)
        self.assertEqual(word, "trap")
        reached = run(world, moves)[-1]
        self.assertEqual(reached[0], (5,))
        self.assertIn(reached, states)
        self.assertIs(hope_holds(world, (word, moves, states)), True)

    def test_a_trap_that_only_a_nudge_leads_to(self):
        plan = [("wait", "m", 0, 2, 1, 2), ("if", "m", 1, 1)]
        self.assertEqual(hope(World({"m": 0}, [plan]))[0], "hope")
        world = World({"m": 0}, [plan], nudges=True)
        self.assertEqual(hope(world), ("trap", [("step", 0), ("nudge", 0)], [((0,), (1,), (0,), ((),))]))
        self.assertIs(hope_holds(world, hope(world)), True)

    def test_too_many(self):
        for rows in (0, 1, 5):
            world = World({"m": 0}, [[("load", "m")] * rows])
            for most in (rows + 1, rows + 2, BIG):
                self.assertEqual(len(hope(world, most=most)[1]), rows + 1)
            for most in (rows, 0, -1, -BIG):
                with self.assertRaises(TooMany) as caught:
                    hope(world, most=most)
                self.assertIs(type(caught.exception), TooMany)
                self.assertEqual(caught.exception.what, most)

    def test_too_many_goes_ahead_of_all_else(self):
        world = World({"m": 0}, [SLEEPY, SLEEPY])
        with self.assertRaises(TooMany) as caught:
            hope(world, most=2)
        self.assertEqual(caught.exception.what, 2)
        self.assertEqual(hope(world)[0], "trap")
        forever = World({"m": 0}, [[("add", "m", 1, -1, 0), ("if", "m", -1, 0)]])
        with self.assertRaises(TooMany) as caught:
            hope(forever)
        self.assertEqual(caught.exception.what, 2000)

    def test_states_that_only_nudges_lead_to_are_counted(self):
        plan = [("wait", "m", 0, 3, 1, 3), ("load", "m"), ("load", "m")]
        self.assertEqual(len(hope(World({"m": 0}, [plan]), most=3)[1]), 3)
        with self.assertRaises(TooMany):
            hope(World({"m": 0}, [plan], nudges=True), most=4)

    def test_told_is_the_askers_own(self):
        for world in (lock(), World({"m": 0}, [SLEEPY] * 2)):
            told = copy.deepcopy(hope(world))
            for part in hope(world)[1:]:
                part.clear()
            self.assertEqual(hope(world), told)
        with self.assertRaises(TypeError):
            hope(lock(), 5)


class HopeHolds(unittest.TestCase):
    def test_a_hope_paper(self):
        for nudges in (False, True):
            world = lock(nudges=nudges)
            word, pairs = hope(world)
            self.assertEqual(word, "hope")
            self.assertIs(hope_holds(world, (word, pairs)), True)
            self.assertIs(hope_holds(world, (word, [])), False)
            self.assertIs(hope_holds(world, (word, pairs[::-1])), False)
            for at, (state, left) in enumerate(pairs):
                for wrong in (left - 1, left + 1, -left - 1, BIG):
                    self.assertIs(hope_holds(world, (word, pairs[:at] + [(state, wrong)] + pairs[at + 1:])), False)
                self.assertIs(hope_holds(world, (word, pairs[:at] + pairs[at + 1:])), False)
                self.assertIs(hope_holds(world, (word, pairs[:at + 1] + pairs[at:])), False)
                twice = pairs[:at + 1] + [(state, left + 1)] + pairs[at + 1:]
                self.assertIs(hope_holds(world, (word, twice)), False)
                if at:
                    exchanged = pairs[:at - 1] + [pairs[at], pairs[at - 1]] + pairs[at + 1:]
                    self.assertIs(hope_holds(world, (word, exchanged)), False)

    def test_all_lefts_one_off(self):
        world = lock()
        word, pairs = hope(world)
        self.assertIs(hope_holds(world, (word, [(state, left + 1) for state, left in pairs])), False)

    def test_the_least_left_counts(self):
        # From the start the one guest is two steps from its end by one way and three by the other.
        world = World({"m": 0}, [[("wait", "m", 0, 3, 3, 1), ("load", "m"), ("load", "m")], [("set", "m", 1)]])
        word, pairs = hope(world)
        self.assertIs(hope_holds(world, (word, pairs)), True)
        self.assertEqual(dict(pairs)[world.start()], 2)

    def test_states_that_cannot_be_come_to(self):
        world = World({"m": 0}, [[("set", "m", 1)]])
        pairs = hope(world)[1]
        more = [(((7,), (0,), (0,), ((),)), 1), (((9,), (1,), (BIG,), ((),)), 0)]
        self.assertIs(hope_holds(world, ("hope", sorted(pairs + more))), True)
        wrong = [(((7,), (0,), (0,), ((),)), 2)]
        self.assertIs(hope_holds(world, ("hope", sorted(pairs + wrong))), False)
        wrong = [(((7,), (0,), (5,), ((),)), 1)]
        self.assertIs(hope_holds(world, ("hope", sorted(pairs + wrong))), False)

    def test_without_the_start(self):
        world = World({"m": 0}, [[("set", "m", 1)]])
        pairs = hope(world)[1]
        self.assertIs(hope_holds(world, ("hope", pairs[1:])), False)

    def test_what_is_no_state_of_the_world(self):
        world = World({"m": 0}, [[("set", "m", 1)]])
        pairs = hope(world)[1]
        for wrong in (
            ((), (), (), ()), ((0, 0), (1,), (0,), ((),)), ((0,), (2,), (0,), ((),)), ((0,), (1,), (0,), ((0,),)),
            ((0,), (1,), (0,), ()), ((0,), (-1,), (0,), ((),)), ((0,), (1,), (), ((),)),
        ):
            for left in (0, 1):
                self.assertIs(hope_holds(world, ("hope", sorted(pairs + [(wrong, left)]))), False)
                self.assertIs(hope_holds(world, ("hope", [(wrong, left)])), False)
            reached = sorted([((0,), (0,), (0,), ((),)), wrong])
            self.assertIs(hope_holds(world, ("trap", [], reached)), False)

    def test_what_only_a_nudge_leads_to_is_wanting(self):
        plan = [("wait", "m", 0, 2, 1, 2), ("load", "m")]
        plain = hope(World({"m": 0}, [plan]))
        world = World({"m": 0}, [plan], nudges=True)
        self.assertIs(hope_holds(world, plain), False)
        self.assertIs(hope_holds(world, hope(world)), True)

    def test_a_state_without_steps_and_late_ends_must_not_stand_there(self):
        world = World({"m": 0}, [SLEEPY], nudges=True)
        states = [((0,), (0,), (0,), ((),)), ((0,), (0,), (0,), ((0,),)), ((0,), (1,), (0,), ((),))]
        for lefts in ((2, 1, 0), (1, 0, 0), (1, 1, 0), (2, 0, 0)):
            self.assertIs(hope_holds(world, ("hope", list(zip(states, lefts)))), False)

    def test_a_trap_is_no_hope(self):
        # Each state has a left one less than itself ahead, but there is no end.
        world = World({"m": 0}, [[("if", "m", 1, 0)]])
        for left in (0, 1, -1, BIG):
            self.assertIs(hope_holds(world, ("hope", [(world.start(), left)])), False)

    def test_a_trap_paper(self):
        world = World({"m": 0}, [ROUND, [("cas", "m", 0, 5, 2), ("set", "m", 1)], [("cas", "m", 0, 1, 1)]])
        word, moves, states = hope(world)
        self.assertEqual(word, "trap")
        self.assertGreater(len(states), 1)
        self.assertIs(hope_holds(world, (word, moves, states)), True)
        self.assertIs(hope_holds(world, (word, moves, states[::-1])), False)
        self.assertIs(hope_holds(world, (word, moves, [])), False)
        self.assertIs(hope_holds(world, (word, [], states)), False)
        self.assertIs(hope_holds(world, (word, [("late", 0)] + moves, states)), False)
        self.assertIs(hope_holds(world, (word, moves + [("step", 9)], states)), False)
        self.assertIs(hope_holds(world, (word, moves + steps(0), states)), True)
        self.assertIs(hope_holds(world, (word, moves + steps(0, 0, 0), states)), True)
        for at in range(len(states)):
            self.assertIs(hope_holds(world, (word, moves, states[:at] + states[at + 1:])), False)
            self.assertIs(hope_holds(world, (word, moves, states[:at + 1] + states[at:])), False)
            if at:
                exchanged = states[:at - 1] + [states[at], states[at - 1]] + states[at + 1:]
                self.assertIs(hope_holds(world, (word, moves, exchanged)), False)

    def test_a_trap_may_have_more_states(self):
        world = World({"m": 0}, [SLEEPY])
        start, lying = ((0,), (0,), (0,), ((),)), ((0,), (0,), (0,), ((0,),))
        self.assertIs(hope_holds(world, ("trap", [], [start, lying])), True)
        self.assertIs(hope_holds(world, ("trap", steps(0), [start, lying])), True)
        self.assertIs(hope_holds(world, ("trap", steps(0), [lying])), True)
        self.assertIs(hope_holds(world, ("trap", steps(0), [start])), False)
        self.assertIs(hope_holds(world, ("trap", [], [lying])), False)
        more = [lying, ((7,), (0,), (0,), ((0,),))]
        self.assertIs(hope_holds(world, ("trap", steps(0), more)), True)

    def test_an_ended_state_in_a_trap(self):
        world = World({"m": 0}, [SLEEPY, [("load", "m")]])
        ended = ((0,), (1, 1), (0, 0), ((),))
        word, moves, states = hope(world)
        self.assertIs(hope_holds(world, (word, moves, states)), True)
        self.assertIs(hope_holds(world, (word, moves, sorted(states + [ended]))), False)
        nobody = World({"m": 0}, [])
        self.assertIs(hope_holds(nobody, ("trap", [], [nobody.start()])), False)

    def test_nudges_may_lead_out_of_a_trap(self):
        world = World({"m": 0}, [SLEEPY], nudges=True)
        lying = ((0,), (0,), (0,), ((0,),))
        self.assertIs(hope_holds(world, ("trap", steps(0), [lying])), True)
        self.assertIs(hope_holds(world, ("trap", [("step", 0), ("nudge", 0)], [lying])), False)

    def test_late_ends_lead_out(self):
        world = World({"m": 0}, [[("wait", "m", 0, 1, 1, 1)]])
        lying = ((0,), (0,), (0,), ((0,),))
        self.assertIs(hope_holds(world, ("trap", steps(0), [lying])), False)

    def test_another_first_text_or_number_of_parts(self):
        world = lock()
        pairs = hope(world)[1]
        for text in ("", "Hope", "hopes", "well", "clash", "stuck", "trap"):
            self.assertIs(hope_holds(world, (text, pairs)), False)
        self.assertIs(hope_holds(world, ("hope", pairs, [])), False)
        self.assertIs(hope_holds(world, ("hope", [], [state for state, left in pairs])), False)
        sleepy = World({"m": 0}, [SLEEPY])
        word, moves, states = hope(sleepy)
        for text in ("", "Trap", "hope", "traps", "well"):
            self.assertIs(hope_holds(sleepy, (text, moves, states)), False)
        self.assertIs(hope_holds(sleepy, ("trap", moves)), False)
        self.assertIs(hope_holds(sleepy, ("trap", [(state, 0) for state in states])), False)
        self.assertIs(hope_holds(sleepy, ("trap", [])), False)

    def test_papers_and_worlds_stay(self):
        for world in (lock(), World({"m": 0}, [SLEEPY])):
            paper = hope(world)
            before = copy.deepcopy((paper, vars(world)))
            self.assertEqual([hope_holds(world, paper) for again in range(2)], [True, True])
            self.assertEqual((paper, vars(world)), before)


class AgainstThePlainOne(unittest.TestCase):
    def test_many_worlds(self):
        chance = random.Random(12)
        words = {"hope": 0, "trap": 0, "many": 0}
        for number in range(500):
            rooms, plans, more = plain_world.some_world(chance, chance.randrange(5), 6)
            world = World(rooms, plans, **more)
            plain = plain_world.plain_world(rooms, plans, **more)
            far = plain_world.reachable(plain, 120)
            if far is None:
                words["many"] += 1
                with self.assertRaises(TooMany):
                    hope(world, most=120)
                continue
            left = plain_world.lefts(plain, list(far))
            paper = hope(world, most=len(far))
            words[paper[0]] += 1
            self.assertIs(hope_holds(world, paper), True)
            if len(left) == len(far):
                self.assertEqual(paper, ("hope", sorted(left.items())))
            else:
                self.assertEqual(paper[0], "trap")
                state = run(world, paper[1])[-1]
                self.assertNotIn(state, left)
                self.assertEqual(paper[2], self.closure(plain, state))
        self.assertGreater(min(words.values()), 30, words)

    def closure(self, plain, state):
        known = [state]
        for one in known:
            for move in plain_world.can(plain, one):
                then = plain_world.after(plain, one, move)
                if move[0] != "nudge" and then not in known:
                    known.append(then)
        return sorted(known)


if __name__ == "__main__":
    unittest.main()
