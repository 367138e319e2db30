"""Looks at all weavings, and papers that are held against a world (points 28 and 29)."""

import copy
import random
import unittest

import plain_world
from dozehall.errors import TooMany
from dozehall.looks import holds, look
from dozehall.weaves import run
from dozehall.worlds import World

BIG = int("9" * 60)
LOCK = [
    ("cas", "m", 0, 1, 3), ("swap", "m", 2, 0, 3), ("wait", "m", 2, 1, 1, -1),
    ("swap", "m", 0, 1, 5), ("wake", "m", 1),
]
HELD = [(), (), (), ("m",), (), ()]
# Looks whether the room is free, and only then takes it: two may hold it at once.
HASTY = [("if", "m", 0, 3), ("set", "m", 1), ("set", "m", 0)]
HASTY_HELD = [(), (), ("m",), ()]
# Lies down for good.
SLEEPY = [("wait", "m", 0, 1, 1, -1)]


def steps(*guests):
    return [("step", guest) for guest in guests]


def line_world(rows):
    """A world with one guest that goes through so many rows: one more states."""
    return World({"m": 0}, [[("load", "m")] * rows])


class Looks(unittest.TestCase):
    def test_well(self):
        world = World({"m": 0}, [[("set", "m", 2), ("load", "m")]])
        self.assertEqual(look(world), ("well", [
            ((0,), (0,), (0,), ((),)),
            ((2,), (1,), (0,), ((),)),
            ((2,), (2,), (2,), ((),)),
        ]))

    def test_kinds_of_values(self):
        for world in (line_world(1), World({"m": 0}, [SLEEPY])):
            paper = look(world)
            self.assertIs(type(paper), tuple)
            self.assertEqual(len(paper), 2)
            self.assertIs(type(paper[1]), list)

    def test_well_of_a_lock(self):
        for guests, nudges in ((1, False), (2, False), (2, True), (3, False), (3, True)):
            world = World({"m": 0}, [LOCK] * guests, marks=[HELD] * guests, nudges=nudges)
            word, states = look(world)
            self.assertEqual(word, "well")
            self.assertEqual(states, sorted(set(states)))
            self.assertIs(holds(world, (word, states)), True)

    def test_without_guests(self):
        world = World({"m": 5}, [])
        self.assertEqual(look(world), ("well", [((5,), (), (), ((),))]))
        self.assertIs(holds(world, look(world)), True)

    def test_clash_in_the_fewest_moves(self):
        world = World({"m": 0}, [HASTY] * 2, marks=[HASTY_HELD] * 2)
        word, moves = look(world)
        self.assertEqual((word, len(moves)), ("clash", 4))
        self.assertTrue(world.clash(run(world, moves)[-1]))

    def test_a_clash_at_the_start(self):
        world = World({"m": 0}, [[], []], marks=[[("m",)], [("m",)]])
        self.assertEqual(look(world), ("clash", []))
        self.assertIs(holds(world, ("clash", [])), True)

    def test_stuck(self):
        world = World({"m": 0}, [SLEEPY, [("load", "m")]])
        word, moves = look(world)
        self.assertEqual((word, sorted(moves)), ("stuck", steps(0, 1)))
        self.assertIs(holds(world, (word, moves)), True)

    def test_stuck_in_the_fewest_moves(self):
        plan = [("if", "m", 0, 3), ("load", "m"), ("load", "m"), ("wait", "m", 0, 4, 4, -1)]
        world = World({"m": 0}, [plan, [("set", "m", 1), ("set", "m", 0)]])
        word, moves = look(world)
        self.assertEqual((word, len(moves)), ("stuck", 4))

    def test_clash_goes_ahead_of_stuck(self):
        # A clash is four moves away, a stuck state two.
        plan = [("wait", "m", 0, 0, 1, -1), ("load", "m"), ("load", "m")]
        world = World({"m": 0}, [plan, [("load", "m"), ("wake", "m", 1), ("load", "m")]], marks=[
            [(), (), ("x",), ()], [(), (), (), ("x",)],
        ])
        self.assertEqual(look(World({"m": 0}, [SLEEPY]))[0], "stuck")
        word, moves = look(world)
        self.assertEqual(word, "clash")
        self.assertTrue(world.clash(run(world, moves)[-1]))

    def test_nudges_are_moves(self):
        # Only a nudge leads to the clash.
        plan = [("wait", "m", 0, 0, 1, -1), ("load", "m")]
        marks = [[(), ("x",), ()], [("x",)]]
        self.assertEqual(look(World({"m": 0}, [plan, []], marks=marks))[0], "stuck")
        world = World({"m": 0}, [plan, []], marks=marks, nudges=True)
        self.assertEqual(look(world), ("clash", [("step", 0), ("nudge", 0)]))

    def test_stuck_though_a_nudge_is_possible(self):
        world = World({"m": 0}, [SLEEPY], nudges=True)
        self.assertEqual(look(world), ("stuck", steps(0)))

    def test_a_sleeper_that_may_be_late_is_not_stuck(self):
        world = World({"m": 0}, [[("wait", "m", 0, 1, 1, 1)]])
        self.assertEqual(look(world), ("well", [
            ((0,), (0,), (0,), ((),)), ((0,), (0,), (0,), ((0,),)), ((0,), (1,), (0,), ((),)),
        ]))

    def test_a_state_behind_a_clash_counts(self):
        world = World({"m": 0}, [[("load", "m")] * 2, []], marks=[[("x",), (), ()], [("x",)]])
        self.assertEqual(look(world, most=3), ("clash", []))
        with self.assertRaises(TooMany):
            look(world, most=2)

    def test_too_many(self):
        for rows in (0, 1, 5):
            world = line_world(rows)
            for most in (rows + 1, rows + 2, BIG):
                self.assertEqual(len(look(world, most=most)[1]), rows + 1)
            for most in (rows, 0, -1, -BIG):
                for again in range(2):
                    with self.assertRaises(TooMany) as caught:
                        look(world, most=most)
                    self.assertIs(type(caught.exception), TooMany)
                    self.assertEqual(caught.exception.what, most)

    def test_too_many_goes_ahead_of_all_else(self):
        clash = World({"m": 0}, [HASTY] * 2, marks=[[("x",)] * 4] * 2)
        stuck = World({"m": 0}, [SLEEPY, SLEEPY])
        for world in (clash, stuck):
            with self.assertRaises(TooMany) as caught:
                look(world, most=3)
            self.assertEqual(caught.exception.what, 3)
        self.assertEqual(look(clash)[0], "clash")
        self.assertEqual(look(stuck)[0], "stuck")

    def test_left_out_it_is_two_thousand(self):
        forever = World({"m": 0}, [[("add", "m", 1, -1, 0), ("if", "m", -1, 0)]])
        with self.assertRaises(TooMany) as caught:
            look(forever)
        self.assertEqual(caught.exception.what, 2000)
        # One state at the start, one at the end, and two for each number between.
        counting = [("add", "m", 1, 1000, 2), ("if", "m", -1, 0)]
        self.assertEqual(len(look(World({"m": 0}, [counting]))[1]), 2000)
        with self.assertRaises(TooMany):
            look(World({"m": -1}, [counting]))

    def test_by_its_name_alone(self):
        with self.assertRaises(TypeError):
            look(line_world(1), 5)

    def test_told_is_the_askers_own(self):
        world = World({"m": 0}, [LOCK] * 2, marks=[HELD] * 2)
        told = copy.deepcopy(look(world))
        look(world)[1].clear()
        self.assertEqual(look(world), told)


class Holds(unittest.TestCase):
    def lock(self, nudges=True):
        return World({"m": 0}, [LOCK] * 2, marks=[HELD] * 2, nudges=nudges)

    def test_a_weaving_to_a_clash(self):
        world = World({"m": 0}, [HASTY] * 2, marks=[HASTY_HELD] * 2)
        for moves, wanted in (
            (steps(0, 1, 0, 1), True),
            (steps(1, 0, 0, 1), True),
            (steps(0, 1, 0), False),
            (steps(0, 1, 0, 1, 0), False),
            (steps(0, 0, 1, 1), False),
            ([], False),
            (steps(0, 1, 0, 2), False),
            (steps(0, 1, 0, -1), False),
            (steps(0, 1, 0) + [("late", 1)], False),
            (steps(0, 1, 0) + [("zzz", 1)], False),
            (steps(0, 1, 0) + [("", BIG)], False),
            (steps(0, 0, 0, 0, 1, 1), False),
        ):
            with self.subTest(moves=moves):
                self.assertIs(holds(world, ("clash", moves)), wanted)
                self.assertIs(holds(world, ("stuck", moves)), False)

    def test_in_however_many_moves(self):
        plan = [("if", "m", 1, 0), ("load", "m")]
        world = World({"m": 0}, [plan, [("load", "m"), ("wait", "m", 0, 2, 2, -1)]], marks=[[()] * 3, [(), (), ("x",)]])
        sleepy = World({"m": 0}, [SLEEPY, SLEEPY])
        self.assertIs(holds(sleepy, ("stuck", steps(0, 1))), True)
        self.assertIs(holds(sleepy, ("stuck", steps(1, 0))), True)
        self.assertIs(holds(sleepy, ("stuck", steps(1))), False)
        self.assertIs(holds(world, ("stuck", steps(0, 0, 0, 1, 1))), False)
        late = World({"m": 0}, [[("wait", "m", 0, 0, 0, 1), ("wait", "m", 0, 0, 0, -1)]], nudges=True)
        for many in range(4):
            moves = [("step", 0), ("nudge", 0)] * many + [("step", 0), ("late", 0), ("step", 0)]
            self.assertIs(holds(late, ("stuck", moves)), True)
            self.assertIs(holds(late, ("stuck", moves[:-1])), False)

    def test_a_stuck_paper_holds_whatever_else_can_be_come_to(self):
        plan = [("if", "m", 0, 2), ("load", "m"), ("wait", "m", 0, 3, 3, -1)]
        world = World({"m": 0}, [plan, [("load", "m")]], marks=[[("x",), (), (), ()], [("x",), ()]])
        self.assertEqual(look(world), ("clash", []))
        self.assertIs(holds(world, ("stuck", steps(1, 0, 0, 0))), True)
        self.assertIs(holds(world, ("clash", steps(0, 1))), False)
        self.assertIs(holds(world, ("stuck", [])), False)

    def test_a_well_paper(self):
        world = self.lock()
        word, states = look(world)
        self.assertEqual(word, "well")
        self.assertIs(holds(world, (word, states)), True)
        self.assertIs(holds(world, (word, [])), False)
        self.assertIs(holds(world, (word, states[::-1])), False)
        for at in range(len(states)):
            # Each of them can be come to, so none may be left out.
            self.assertIs(holds(world, (word, states[:at] + states[at + 1:])), False)
            self.assertIs(holds(world, (word, states[:at + 1] + states[at:])), False)
            self.assertIs(holds(world, (word, states[:at] + states[at + 1:] + [states[at]])), at == len(states) - 1)
            if at:
                exchanged = states[:at - 1] + [states[at], states[at - 1]] + states[at + 1:]
                self.assertIs(holds(world, (word, exchanged)), False)

    def test_only_the_start_is_wanting(self):
        world = World({"m": 0}, [[("load", "m")]])
        word, states = look(world)
        self.assertIs(holds(world, (word, states)), True)
        self.assertIs(holds(world, (word, states[1:])), False)

    def test_only_what_a_nudge_leads_to_is_wanting(self):
        plan = [("wait", "m", 0, 2, 1, 2), ("load", "m")]
        plain = look(World({"m": 0}, [plan]))
        world = World({"m": 0}, [plan], nudges=True)
        self.assertEqual(plain[0], "well")
        self.assertIs(holds(world, plain), False)
        self.assertIs(holds(world, look(world)), True)
        self.assertIs(holds(World({"m": 0}, [plan]), look(world)), True)

    def test_only_what_a_late_end_leads_to_is_wanting(self):
        world = World({"m": 0}, [[("wait", "m", 0, 1, 1, 1)]])
        word, states = look(world)
        self.assertIs(holds(world, (word, states[:2])), False)

    def test_states_that_cannot_be_come_to(self):
        world = World({"m": 0}, [[("set", "m", 1)]])
        states = look(world)[1]
        more = [((7,), (1,), (0,), ((),)), ((-BIG,), (1,), (BIG,), ((),))]
        self.assertIs(holds(world, ("well", sorted(states + more))), True)
        # From this one a move leads to a state that is not there.
        self.assertIs(holds(world, ("well", sorted(states + [((7,), (0,), (3,), ((),))]))), False)
        self.assertIs(holds(world, ("well", sorted(states + [((7,), (0,), (0,), ((),))]))), True)

    def test_what_is_no_state_of_the_world(self):
        world = World({"m": 0}, [[("set", "m", 1)]])
        states = look(world)[1]
        for wrong in (
            ((), (), (), ()), ((0, 0), (1,), (0,), ((),)), ((0,), (1, 1), (0,), ((),)), ((0,), (1,), (), ((),)),
            ((0,), (1,), (0,), ()), ((0,), (2,), (0,), ((),)), ((0,), (-1,), (0,), ((),)),
            ((0,), (1,), (0,), ((0,),)), ((0,), (1,), (0,), ((), ())), ((0,), (1,), (0,), ((-1,),)),
            ((0,), (0,), (0,), ((5,),)),
        ):
            with self.subTest(wrong=wrong):
                self.assertIs(holds(world, ("well", sorted(states + [wrong]))), False)
                self.assertIs(holds(world, ("well", [wrong])), False)

    def test_a_clash_or_a_stuck_state_among_them(self):
        world = World({"m": 0}, [HASTY] * 2, marks=[HASTY_HELD] * 2)
        free = World({"m": 0}, [HASTY] * 2)
        self.assertIs(holds(free, look(free)), True)
        self.assertIs(holds(world, look(free)), False)
        sleepy = World({"m": 0}, [SLEEPY])
        states = [((0,), (0,), (0,), ((),)), ((0,), (0,), (0,), ((0,),))]
        self.assertIs(holds(sleepy, ("well", states)), False)

    def test_a_clash_that_cannot_be_come_to(self):
        world = World({"m": 0}, [[("load", "m")], []], marks=[[(), ("x",)], [()]])
        states = look(world)[1]
        self.assertIs(holds(world, ("well", states)), True)
        marked = World({"m": 0}, [[("set", "m", 0)], [("if", "m", 1, 0)]], marks=[[(), ("x",)], [(), ("x",)]])
        states = look(marked)[1]
        self.assertIs(holds(marked, ("well", states)), True)
        self.assertIs(holds(marked, ("well", sorted(states + [((0,), (1, 1), (0, 0), ((),))]))), False)

    def test_another_first_text(self):
        world = self.lock()
        states = look(world)[1]
        for text in ("", "Well", "well ", "hope", "trap", "clashes", "nobody"):
            self.assertIs(holds(world, (text, states)), False)
            self.assertIs(holds(world, (text, [])), False)
        hasty = World({"m": 0}, [HASTY] * 2, marks=[HASTY_HELD] * 2)
        for text in ("", "Clash", "stuck", "well", "hope", "trap"):
            self.assertIs(holds(hasty, (text, steps(0, 1, 0, 1) if text != "well" else [])), False)
        sleepy = World({"m": 0}, [SLEEPY])
        self.assertIs(holds(sleepy, ("stuck", steps(0))), True)
        for text in ("", "Stuck", "clash", "hope", "trap", "sleep"):
            self.assertIs(holds(sleepy, (text, steps(0))), False)

    def test_papers_and_worlds_stay(self):
        for world in (self.lock(), World({"m": 0}, [SLEEPY]), World({"m": 0}, [HASTY] * 2, marks=[HASTY_HELD] * 2)):
            paper = look(world)
            before = copy.deepcopy((paper, vars(world)))
            told = [holds(world, paper) for again in range(2)]
            self.assertEqual(told, [True, True])
            self.assertEqual((paper, vars(world)), before)

    def test_big_numbers(self):
        world = World({"m": -BIG}, [[("add", "m", -BIG, 0, 0), ("load", "m")]])
        paper = look(world)
        self.assertEqual(paper[1][0], ((-2 * BIG,), (1,), (0,), ((),)))
        self.assertIs(holds(world, paper), True)


class AgainstThePlainOne(unittest.TestCase):
    def test_many_worlds(self):
        chance = random.Random(11)
        words = {"clash": 0, "stuck": 0, "well": 0, "many": 0}
        for number in range(700):
            rooms, plans, more = plain_world.some_world(chance, chance.randrange(5), 6)
            world = World(rooms, plans, **more)
            plain = plain_world.plain_world(rooms, plans, **more)
            far = plain_world.reachable(plain, 150)
            if far is None:
                words["many"] += 1
                with self.assertRaises(TooMany):
                    look(world, most=150)
                continue
            word, told = look(world, most=len(far))
            with self.assertRaises(TooMany):
                look(world, most=len(far) - 1)
            words[word] += 1
            clashes = [far[state] for state in far if plain_world.is_clash(plain, state)]
            stucks = [far[state] for state in far if plain_world.is_stuck(plain, state)]
            if clashes:
                self.assertEqual((word, len(told)), ("clash", min(clashes)))
            elif stucks:
                self.assertEqual((word, len(told)), ("stuck", min(stucks)))
            else:
                self.assertEqual((word, told), ("well", sorted(far)))
            self.assertIs(holds(world, (word, told)), True)
            for other in ("clash", "stuck"):
                if word != "well" and other != word:
                    state = run(world, told)[-1]
                    wanted = plain_world.is_clash(plain, state) if other == "clash" else plain_world.is_stuck(plain, state)
                    self.assertIs(holds(world, (other, told)), wanted)
            self.assertIs(holds(world, ("well", sorted(far))), not clashes and not stucks)
        self.assertGreater(min(words.values()), 30, words)


if __name__ == "__main__":
    unittest.main()
