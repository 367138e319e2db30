"""Worlds: how they are made and refused, their states, clashes, ends (points 22, 23, 27)."""

import copy
import unittest

from dozehall.errors import BadPlan
from dozehall.worlds import World

BIG = int("9" * 60)
FORMS = {
    "set": ("set", "a", 1),
    "add": ("add", "a", 1, 1, 0),
    "cas": ("cas", "a", 1, 1, 0),
    "swap": ("swap", "a", 1, 1, 0),
    "take": ("take", "a", 0),
    "if": ("if", "a", 1, 0),
    "load": ("load", "a"),
    "wait": ("wait", "a", 1, 0, 0, -1),
    "still": ("still", "a", 0, 0, -1),
    "wake": ("wake", "a", 1),
    "move": ("move", "a", "b", 1, 1),
}
# Which parts of a row are places from 0 to the end, and which are a T.
PLACES = {"add": (4,), "cas": (4,), "swap": (4,), "take": (2,), "if": (3,), "wait": (3, 4), "still": (2, 3)}
LATES = {"wait": 5, "still": 4}
COUNTS = {"wake": (2,), "move": (3, 4)}
ROOMS = {"b": 0, "a": 0}


def with_part(row, at, part):
    return row[:at] + (part,) + row[at + 1:]


class Making(unittest.TestCase):
    def test_without_guests_and_rows(self):
        self.assertEqual(World({"a": 4}, []).start(), ((4,), (), (), ((),)))
        self.assertEqual(World({"a": 4}, [[], []]).start(), ((4,), (0, 0), (0, 0), ((),)))
        self.assertEqual(World({"a": 4}, [], marks=[], ranks=[]).start(), ((4,), (), (), ((),)))

    def test_by_their_names(self):
        world = World({"a": 4}, [[]], nudges=True, ranks=[3], marks=[[("m",)]])
        self.assertEqual(world.start(), ((4,), (0,), (0,), ((),)))
        for deed in (lambda: World({"a": 4}, [[]], None), lambda: World({"a": 4}, [[]], None, None, True)):
            with self.assertRaises(TypeError):
                deed()

    def test_all_rows(self):
        World(ROOMS, [list(FORMS.values())])

    def test_the_start(self):
        world = World({"c": -BIG, "a": BIG, "b": 0}, [[("load", "a")], [], [("set", "b", 5)]])
        self.assertEqual(world.start(), ((BIG, 0, -BIG), (0, 0, 0), (0, 0, 0), ((), (), ())))

    def test_rooms_by_their_sorted_names(self):
        world = World({"zz": 1, "b": 2, "ab": 3, "a": 4}, [])
        self.assertEqual(world.start()[0], (4, 3, 2, 1))

    def test_many_guests_rooms_and_rows(self):
        letters = "lkjihgfedcba"
        rooms = {letter: ord(letter) for letter in letters}
        plan = [("add", letters[at % 12], 1, 0, 110) for at in range(110)]
        world = World(rooms, [plan] * 8, ranks=list(range(8)))
        self.assertEqual(world.start()[0], tuple(range(97, 109)))
        self.assertEqual(len(world.can(world.start())), 8)

    def test_what_is_handed_in_stays(self):
        rooms = {"b": 1, "a": 0}
        plans = [[("wait", "a", 0, 1, 1, -1), ("load", "b")], [("wait", "a", 0, 1, 1, -1)]]
        marks = [[("m",), (), ()], [("m",), ()]]
        ranks = [0, 1]
        handed = (rooms, plans, marks, ranks)
        before = copy.deepcopy(handed)
        world = World(rooms, plans, marks=marks, ranks=ranks, nudges=True)
        start = world.start()
        state = world.after(world.after(start, ("step", 0)), ("step", 1))
        self.assertEqual(state, ((0, 1), (0, 0), (0, 0), ((1, 0), ())))
        self.assertTrue(world.clash(start))
        world.stuck(state), world.ended(state), world.can(state), world.is_state(state)
        self.assertEqual(handed, before)
        rooms["a"] = 9
        rooms["c"] = 9
        plans[0][0] = ("set", "b", 7)
        plans[1].append(("set", "b", 7))
        plans.append([])
        marks[0][0] = ()
        marks[1].clear()
        ranks.reverse()
        self.assertEqual(world.start(), start)
        self.assertEqual(world.after(world.after(start, ("step", 0)), ("step", 1)), state)
        self.assertTrue(world.clash(start))
        self.assertTrue(world.is_state(state))
        self.assertFalse(world.ended(((0, 1), (2, 0), (0, 0), ((), ()))))
        self.assertTrue(world.ended(((0, 1), (2, 1), (0, 0), ((), ()))))


class BadPlans(unittest.TestCase):
    def refused(self, plans, what):
        with self.assertRaises(BadPlan) as caught:
            World(ROOMS, plans)
        self.assertIs(type(caught.exception), BadPlan)
        self.assertEqual(caught.exception.what, what)
        self.assertIs(type(caught.exception.what), tuple)

    def everywhere(self, row):
        """The row at the first and the last place, where no way leads to, in the first and a later plan."""
        good = ("load", "a")
        for plan, place in (([row], 0), ([row, good, good], 0), ([good, good, row], 2)):
            self.refused([plan], (0, place))
            self.refused([[good], [], plan, [good]], (2, place))
        self.refused([[("if", "a", 0, 2), ("if", "a", 0, 0), row]], (0, 2))

    def test_rooms_that_are_not_there(self):
        for row in FORMS.values():
            for name in ("c", "ab", "zzzzzzzz"):
                self.everywhere(with_part(row, 1, name))
        self.everywhere(("move", "a", "c", 1, 1))
        self.everywhere(("move", "c", "a", 1, 1))

    def test_a_move_to_the_very_room(self):
        self.everywhere(("move", "a", "a", 1, 1))
        self.everywhere(("move", "b", "b", 0, 0))

    def test_counts_below_0(self):
        for word, parts in COUNTS.items():
            for at in parts:
                for count in (-1, -BIG):
                    self.everywhere(with_part(FORMS[word], at, count))
                for count in (0, BIG):
                    World(ROOMS, [[with_part(FORMS[word], at, count)]])

    def test_places(self):
        good = ("load", "a")
        for word, parts in PLACES.items():
            for at in parts:
                for place in (-1, -2, -BIG, 10, BIG):
                    self.everywhere(with_part(FORMS[word], at, place))
                for many in (1, 2, 3):
                    ahead = [good] * (many - 1)
                    for place in range(many + 1):
                        World(ROOMS, [ahead + [with_part(FORMS[word], at, place)]])
                    self.refused([ahead + [with_part(FORMS[word], at, many + 1)]], (0, many - 1))

    def test_late_places(self):
        good = ("load", "a")
        for word, at in LATES.items():
            for place in (-2, -3, -BIG, 10, BIG):
                self.everywhere(with_part(FORMS[word], at, place))
            for many in (1, 2, 3):
                ahead = [good] * (many - 1)
                for place in range(-1, many + 1):
                    World(ROOMS, [ahead + [with_part(FORMS[word], at, place)]])
                self.refused([ahead + [with_part(FORMS[word], at, many + 1)]], (0, many - 1))

    def test_numbers_are_free(self):
        for number in (-BIG, -1, 0, BIG):
            World(ROOMS, [[
                ("set", "a", number), ("add", "a", number, number, 0), ("cas", "a", number, number, 0),
                ("swap", "a", number, number, 0), ("if", "a", number, 0), ("wait", "a", number, 0, 0, -1),
            ]])

    def test_of_several_the_least_pair(self):
        good, bad = ("load", "a"), ("load", "z")
        self.refused([[good], [good, bad, bad], [bad]], (1, 1))
        self.refused([[], [], [good, good, ("wake", "a", -1)], [bad]], (2, 2))
        self.refused([[good, good, good, bad], [bad]], (0, 3))

    def test_places_are_those_of_the_own_plan(self):
        good = ("load", "a")
        self.refused([[good, good, good], [("if", "a", 0, 2)]], (1, 0))
        World(ROOMS, [[good, good, ("if", "a", 0, 3)], [("if", "a", 0, 1)]])

    def test_a_world_that_was_refused_may_be_made_otherwise(self):
        plans = [[("load", "z")]]
        before = copy.deepcopy(plans)
        self.refused(plans, (0, 0))
        self.assertEqual(plans, before)
        World({"z": 0}, plans)


class States(unittest.TestCase):
    def world(self):
        bed = [("load", "a"), ("wait", "a", 0, 0, 0, -1), ("still", "b", 0, 0, 3), ("load", "b")]
        return World({"a": 0, "b": 0}, [bed, bed, bed], ranks=[1, 0, 1])

    def check(self, wanted, numbers=(0, 0), places=(0, 1, 2), owns=(0, 0, 0), lines=((), ())):
        told = self.world().is_state((numbers, places, owns, lines))
        self.assertIs(told, wanted)

    def test_states(self):
        self.check(True)
        self.check(True, numbers=(-BIG, 2 * BIG), owns=(BIG, -BIG, 0))
        self.check(True, places=(4, 4, 4))
        self.check(True, places=(3, 0, 4))
        self.check(True, lines=((1,), (2,)))
        self.check(True, lines=((2, 1), ()))
        self.check(True, lines=((), (2, 1)))
        self.check(True, places=(1, 2, 1), lines=((0, 2), (1,)))
        self.check(True, places=(1, 2, 1), lines=((2, 0, 1), ()))

    def test_a_sleeper_may_lie_though_the_number_is_another(self):
        self.check(True, numbers=(7, 7), owns=(1, 1, 1), lines=((1,), (2,)))

    def test_lengths(self):
        for numbers in ((), (0,), (0, 0, 0)):
            self.check(False, numbers=numbers)
        for places in ((), (0, 1), (0, 1, 2, 3)):
            self.check(False, places=places)
        for owns in ((), (0, 0), (0, 0, 0, 0)):
            self.check(False, owns=owns)
        for lines in ((), ((),), ((), (), ())):
            self.check(False, lines=lines)

    def test_places_out_of_bounds(self):
        for place in (-1, -2, -5, 5, 6, BIG, -BIG):
            self.check(False, places=(place, 1, 2))
            self.check(False, places=(0, 1, place))

    def test_guests_out_of_bounds(self):
        for guest in (-1, -2, -3, 3, 4, BIG, -BIG):
            self.check(False, places=(1, 1, 1), lines=((guest,), ()))
            self.check(False, places=(1, 1, 1), lines=((), (1, guest)))

    def test_a_guest_twice(self):
        self.check(False, lines=((1, 1), ()))
        self.check(False, lines=((1,), (1,)))
        self.check(False, lines=((), (2, 1, 1)))
        self.check(False, lines=((2, 1), (2,)))

    def test_a_guest_in_a_line_that_stands_elsewhere(self):
        self.check(False, lines=((0,), ()))
        self.check(False, places=(3, 1, 2), lines=((0,), ()))
        self.check(False, places=(4, 1, 2), lines=((0,), ()))
        self.check(False, places=(4, 1, 2), lines=((), (0, 1)))
        self.check(True, places=(1, 1, 2), lines=((), (0, 1)))

    def test_ranks_out_of_order(self):
        self.check(False, places=(1, 1, 1), lines=((1, 0), ()))
        self.check(False, places=(1, 1, 1), lines=((), (0, 1, 2)))
        self.check(False, places=(1, 1, 1), lines=((), (1, 2)))
        self.check(True, places=(1, 1, 1), lines=((1,), (2, 0)))
        self.check(True, places=(1, 1, 1), lines=((0, 2, 1), ()))

    def test_of_a_world_without_guests(self):
        world = World({"a": 0}, [])
        self.assertIs(world.is_state(((5,), (), (), ((),))), True)
        self.assertIs(world.is_state(((5,), (), (), ((0,),))), False)
        self.assertIs(world.is_state(((5,), (0,), (0,), ((),))), False)

    def test_a_plan_without_rows(self):
        world = World({"a": 0}, [[]])
        self.assertIs(world.is_state(((5,), (0,), (0,), ((),))), True)
        self.assertIs(world.is_state(((5,), (1,), (0,), ((),))), False)
        self.assertIs(world.is_state(((5,), (0,), (0,), ((0,),))), False)

    def test_in_another_world(self):
        world = self.world()
        for guest in range(3):
            state = world.after(world.start(), ("step", guest))
            self.assertTrue(world.is_state(state))
            self.assertFalse(World({"a": 0}, [[], [], []]).is_state(state))


class Ends(unittest.TestCase):
    def clash(self, *names):
        plan = [("load", "a")]
        world = World({"a": 0}, [plan] * len(names), marks=[[told, ()] for told in names])
        told = world.clash(world.start())
        for guest in range(len(names)):
            self.assertIs(world.clash(world.after(world.start(), ("step", guest))), self.left(names, guest))
        return told

    def left(self, names, gone):
        rest = [set(told) for guest, told in enumerate(names) if guest != gone]
        return any(one & two for at, one in enumerate(rest) for two in rest[:at])

    def test_clashes(self):
        self.assertIs(self.clash(("m",), ("m",)), True)
        self.assertIs(self.clash(("m",), ("n",)), False)
        self.assertIs(self.clash(("m", "n"), ("o", "n")), True)
        self.assertIs(self.clash(("m",), (), ("m",)), True)
        self.assertIs(self.clash((), (), ()), False)
        self.assertIs(self.clash(("m",), ("n",), ("n", "m")), True)
        self.assertIs(self.clash(("m", "mm"), ("mmm",)), False)

    def test_one_guest_alone_is_no_clash(self):
        self.assertIs(self.clash(("m", "m")), False)
        self.assertIs(self.clash(("m", "m"), ("n", "n")), False)
        self.assertIs(self.clash(("m", "m"), ("n", "m")), True)

    def test_marks_left_out(self):
        world = World({"a": 0}, [[("load", "a")]] * 2)
        self.assertIs(world.clash(world.start()), False)

    def test_the_mark_of_the_end(self):
        world = World({"a": 0}, [[("load", "a")]] * 2, marks=[[(), ("m",)], [("m",), ()]])
        self.assertIs(world.clash(world.start()), False)
        self.assertIs(world.clash(((0,), (1, 0), (0, 0), ((),))), True)
        self.assertIs(world.clash(((0,), (1, 1), (0, 0), ((),))), False)

    def test_a_sleeper_has_its_mark(self):
        bed = [("wait", "a", 0, 0, 0, -1)]
        world = World({"a": 0}, [bed, bed], marks=[[("m",), ()]] * 2)
        self.assertIs(world.clash(((0,), (0, 0), (0, 0), ((1, 0),))), True)

    def test_ended_and_stuck(self):
        never = [("wait", "a", 0, 1, 1, -1)]
        late = [("wait", "a", 0, 1, 1, 1)]
        for plans, places, line, ended, stuck in (
            ([], (), (), True, False),
            ([[], []], (0, 0), (), True, False),
            ([never], (1,), (), True, False),
            ([never], (0,), (), False, False),
            ([never], (0,), (0,), False, True),
            ([late], (0,), (0,), False, False),
            ([never, late], (0, 0), (0, 1), False, False),
            ([never, late], (0, 0), (0,), False, False),
            ([never, late], (0, 1), (0,), False, True),
            ([never, never], (0, 0), (1, 0), False, True),
            ([never, never], (0, 1), (), False, False),
            ([never, never], (1, 1), (), True, False),
            ([never, []], (0, 0), (0,), False, True),
        ):
            for nudges in (False, True):
                world = World({"a": 0}, plans, nudges=nudges)
                state = ((0,), places, (0,) * len(plans), (line,))
                with self.subTest(plans=plans, state=state, nudges=nudges):
                    self.assertTrue(world.is_state(state))
                    self.assertIs(world.ended(state), ended)
                    self.assertIs(world.stuck(state), stuck)

    def test_late_though_moved(self):
        world = World({"a": 0, "b": 0}, [[("wait", "a", 0, 1, 1, 1)]])
        self.assertIs(world.stuck(((0, 0), (0,), (0,), ((), (0,)))), False)
        world = World({"a": 0, "b": 0}, [[("wait", "a", 0, 1, 1, -1)]])
        self.assertIs(world.stuck(((0, 0), (0,), (0,), ((), (0,)))), True)


class Body(unittest.TestCase):
    def test_each_listed_method_stands_in_its_class(self):
        for name in ("__init__", "start", "is_state", "can", "after", "clash", "ended", "stuck"):
            self.assertIn(name, vars(World))


if __name__ == "__main__":
    unittest.main()
