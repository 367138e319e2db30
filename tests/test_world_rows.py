"""Each row of a plan, each way that it can go (point 21), and each move (point 24)."""

import unittest

from dozehall.errors import NoMove
from dozehall.worlds import World

BIG = int("9" * 60)
REST = ("load", "z")


def world_of(row, number=0, *, plans=(), ranks=None, nudges=False, other=7):
    """A world with rooms r, v, z (3) in which guest 0 has the row at place 1 of a plan of six rows."""
    plan = [REST, row, REST, REST, REST, REST]
    rooms = {"z": 3, "r": number, "v": other}
    return World(rooms, [plan] + list(plans), ranks=ranks, nudges=nudges)


def told(world, state, guest=0):
    """The number of r and the guest's place behind its step."""
    numbers, places, owns, lines = world.after(state, ("step", guest))
    return numbers[0], places[guest]


def at_row(world, lines=((), (), ()), owns=None, places=None):
    """The state in which guest 0 stands at its row, and these lie in the lines of r, v, z."""
    numbers, starts, noughts, empty = world.start()
    return numbers, (1,) + (places or starts[1:]), owns or noughts, lines


class Numbers(unittest.TestCase):
    def expect(self, row, number, after, place):
        world = world_of(row, number)
        state = at_row(world)
        self.assertEqual(told(world, state), (after, place))
        numbers, places, owns, lines = world.after(state, ("step", 0))
        self.assertEqual((numbers[1:], owns, lines), ((7, 3), (0,), ((), (), ())))

    def test_set(self):
        for k in (0, 5, -5, BIG, -BIG):
            self.expect(("set", "r", k), 2, k, 2)

    def test_add(self):
        self.expect(("add", "r", 3, 5, 4), 2, 5, 4)
        self.expect(("add", "r", 3, 2, 4), 2, 5, 2)
        self.expect(("add", "r", 3, 6, 4), 2, 5, 2)
        self.expect(("add", "r", -3, -1, 0), 2, -1, 0)
        self.expect(("add", "r", 0, 2, 6), 2, 2, 6)
        self.expect(("add", "r", BIG, 2 * BIG, 5), BIG, 2 * BIG, 5)
        self.expect(("add", "r", -BIG, 0, 5), -BIG, -2 * BIG, 2)

    def test_cas(self):
        self.expect(("cas", "r", 2, 9, 4), 2, 9, 4)
        self.expect(("cas", "r", 3, 9, 4), 2, 2, 2)
        self.expect(("cas", "r", 9, 2, 4), 2, 2, 2)
        self.expect(("cas", "r", -BIG, BIG, 6), -BIG, BIG, 6)
        self.expect(("cas", "r", 2, 2, 0), 2, 2, 0)

    def test_swap(self):
        self.expect(("swap", "r", 9, 2, 4), 2, 9, 4)
        self.expect(("swap", "r", 9, 3, 4), 2, 9, 2)
        self.expect(("swap", "r", 9, 9, 4), 2, 9, 2)
        self.expect(("swap", "r", 2, 2, 1), 2, 2, 1)

    def test_take(self):
        self.expect(("take", "r", 4), 2, 1, 4)
        self.expect(("take", "r", 4), 1, 0, 4)
        self.expect(("take", "r", 4), 0, 0, 2)
        self.expect(("take", "r", 4), -1, -1, 2)
        self.expect(("take", "r", 0), BIG, BIG - 1, 0)
        self.expect(("take", "r", 4), -BIG, -BIG, 2)

    def test_if(self):
        self.expect(("if", "r", 2, 4), 2, 2, 2)
        self.expect(("if", "r", 3, 4), 2, 2, 4)
        self.expect(("if", "r", 0, 6), 2, 2, 6)
        self.expect(("if", "r", BIG, 4), BIG, BIG, 2)

    def test_load(self):
        for number in (2, 0, -BIG, BIG):
            world = world_of(("load", "r"), number)
            state = at_row(world, owns=(44,))
            self.assertEqual(world.after(state, ("step", 0)), ((number, 7, 3), (2,), (number,), ((), (), ())))

    def test_only_the_one_guest_goes_on(self):
        world = world_of(("load", "r"), 5, plans=[[REST], [("load", "r")]])
        state = world.start()
        self.assertEqual(world.after(state, ("step", 1)), ((5, 7, 3), (0, 1, 0), (0, 3, 0), ((), (), ())))
        self.assertEqual(world.after(state, ("step", 2)), ((5, 7, 3), (0, 0, 1), (0, 0, 5), ((), (), ())))

    def test_to_its_end(self):
        world = World({"a": 0}, [[("set", "a", 1)]])
        state = world.after(world.start(), ("step", 0))
        self.assertEqual(state, ((1,), (1,), (0,), ((),)))
        self.assertEqual(world.can(state), [])


class Beds(unittest.TestCase):
    def test_a_wait_that_lies_down(self):
        world = world_of(("wait", "r", 5, 2, 3, 4), 5)
        self.assertEqual(world.after(at_row(world), ("step", 0)), ((5, 7, 3), (1,), (0,), ((0,), (), ())))

    def test_a_wait_that_does_not(self):
        for k in (4, 6, 0, -5):
            world = world_of(("wait", "r", k, 5, 3, 4), 5)
            self.assertEqual(world.after(at_row(world), ("step", 0)), ((5, 7, 3), (5,), (0,), ((), (), ())))

    def test_a_still_that_lies_down(self):
        for number in (5, 0, BIG):
            world = world_of(("still", "r", 2, 3, 4), number)
            state = at_row(world, owns=(number,))
            self.assertEqual(world.after(state, ("step", 0)), ((number, 7, 3), (1,), (number,), ((0,), (), ())))

    def test_a_still_that_does_not(self):
        for own in (4, 0, -5):
            world = world_of(("still", "r", 5, 3, 4), 5)
            state = at_row(world, owns=(own,))
            self.assertEqual(world.after(state, ("step", 0)), ((5, 7, 3), (5,), (own,), ((), (), ())))

    def test_a_still_has_its_own_guests_number(self):
        bed = [("still", "r", 1, 1, -1)]
        world = World({"r": 5}, [bed, bed])
        state = ((5,), (0, 0), (5, 4), ((),))
        self.assertEqual(world.after(state, ("step", 0))[3], ((0,),))
        self.assertEqual(world.after(state, ("step", 1))[3], ((),))

    def test_ends(self):
        for row in (("wait", "r", 5, 2, 3, 4), ("still", "r", 2, 3, 4)):
            world = world_of(row, 5, nudges=True)
            state = at_row(world, lines=((0,), (), ()))
            self.assertEqual(world.can(state), [("late", 0), ("nudge", 0)])
            self.assertEqual(world.after(state, ("late", 0)), ((5, 7, 3), (4,), (0,), ((), (), ())))
            self.assertEqual(world.after(state, ("nudge", 0)), ((5, 7, 3), (3,), (0,), ((), (), ())))

    def test_ends_in_another_line(self):
        for lines in (((), (0,), ()), ((), (), (0,))):
            world = world_of(("wait", "r", 5, 2, 3, 4), 5, nudges=True)
            state = at_row(world, lines=lines)
            self.assertEqual(world.after(state, ("late", 0))[1:], ((4,), (0,), ((), (), ())))
            self.assertEqual(world.after(state, ("nudge", 0))[1:], ((3,), (0,), ((), (), ())))

    def test_others_stay_in_their_order(self):
        bed = [("wait", "r", 0, 1, 1, 1)]
        world = World({"r": 0, "v": 0}, [bed] * 5, nudges=True)
        state = ((0, 0), (0,) * 5, (0,) * 5, ((3, 1, 0), (4, 2)))
        self.assertEqual(world.after(state, ("late", 1))[3], ((3, 0), (4, 2)))
        self.assertEqual(world.after(state, ("nudge", 4))[3], ((3, 1, 0), (2,)))

    def test_places_at_the_end(self):
        world = World({"r": 0}, [[("wait", "r", 0, 1, 1, 1)]], nudges=True)
        lying = ((0,), (0,), (0,), ((0,),))
        for word in ("late", "nudge"):
            self.assertEqual(world.after(lying, (word, 0)), ((0,), (1,), (0,), ((),)))


class Wakes(unittest.TestCase):
    def world(self, row, ranks=None):
        bed = [REST, ("wait", "r", 0, 0, 3, 2), REST, REST]
        return world_of(row, plans=[bed] * 4, ranks=ranks)

    def after(self, row, line, other=(), ranks=None):
        world = self.world(row, ranks)
        return world.after(at_row(world, (line, other, ()), places=(1, 1, 1, 1)), ("step", 0))

    def test_of_none_of_some_of_more_than_there_are(self):
        for many, places, left in (
            (0, (1, 1, 1, 1), (3, 1, 4)),
            (1, (1, 1, 3, 1), (1, 4)),
            (2, (3, 1, 3, 1), (4,)),
            (3, (3, 1, 3, 3), ()),
            (4, (3, 1, 3, 3), ()),
            (BIG, (3, 1, 3, 3), ()),
        ):
            state = self.after(("wake", "r", many), (3, 1, 4), (2,))
            self.assertEqual(state, ((0, 7, 3), (2,) + places, (0,) * 5, (left, (2,), ())))

    def test_of_an_empty_line(self):
        state = self.after(("wake", "v", 2), (3, 1, 4, 2))
        self.assertEqual(state, ((0, 7, 3), (2, 1, 1, 1, 1), (0,) * 5, ((3, 1, 4, 2), (), ())))

    def test_each_by_its_own_row(self):
        beds = [[("wait", "r", 0, 0, 1, -1), REST, REST, REST], [REST, ("still", "r", 0, 4, -1), REST, REST]]
        world = World({"r": 0, "z": 1}, [[("wake", "r", 9)]] + beds)
        state = ((0, 1), (0, 0, 1), (0, 0, 0), ((2, 1), ()))
        self.assertEqual(world.after(state, ("step", 0))[1], (1, 1, 4))

    def test_moves(self):
        for many, more, places, left, moved in (
            (0, 0, (1, 1, 1, 1), (3, 1, 4), (2,)),
            (0, 1, (1, 1, 1, 1), (1, 4), (2, 3)),
            (0, 9, (1, 1, 1, 1), (), (2, 3, 1, 4)),
            (1, 1, (1, 1, 3, 1), (4,), (2, 1)),
            (2, 0, (3, 1, 3, 1), (4,), (2,)),
            (1, 2, (1, 1, 3, 1), (), (2, 1, 4)),
            (3, 1, (3, 1, 3, 3), (), (2,)),
            (9, 9, (3, 1, 3, 3), (), (2,)),
            (BIG, BIG, (3, 1, 3, 3), (), (2,)),
            (1, BIG, (1, 1, 3, 1), (), (2, 1, 4)),
        ):
            state = self.after(("move", "r", "v", many, more), (3, 1, 4), (2,))
            self.assertEqual(state, ((0, 7, 3), (2,) + places, (0,) * 5, (left, moved, ())))

    def test_a_move_by_ranks(self):
        ranks = [0, 1, 2, 1, 0]
        state = self.after(("move", "r", "v", 0, 9), (2, 3, 4), (1,), ranks)
        self.assertEqual(state[3], ((), (2, 1, 3, 4), ()))
        state = self.after(("move", "r", "v", 1, 1), (2, 3, 4), (1,), ranks)
        self.assertEqual(state[3], ((4,), (1, 3), ()))

    def test_who_was_moved_is_woken_to_its_own_place(self):
        state = self.after(("wake", "v", 1), (), (4, 3))
        self.assertEqual(state[1:], ((2, 1, 1, 1, 3), (0,) * 5, ((), (3,), ())))

    def test_the_place_in_a_line_by_ranks(self):
        for rank, line in (
            (6, (0, 1, 2, 3, 4)), (5, (1, 0, 2, 3, 4)), (4, (1, 0, 2, 3, 4)), (3, (1, 2, 3, 0, 4)),
            (0, (1, 2, 3, 0, 4)), (-1, (1, 2, 3, 4, 0)), (-2, (1, 2, 3, 4, 0)), (BIG, (0, 1, 2, 3, 4)),
            (-BIG, (1, 2, 3, 4, 0)),
        ):
            world = self.world(("wait", "r", 0, 0, 0, -1), [rank, 5, 3, 3, -1])
            state = at_row(world, ((1, 2, 3, 4), (), ()), places=(1, 1, 1, 1))
            with self.subTest(rank=rank):
                self.assertEqual(world.after(state, ("step", 0))[3][0], line)


class Moves(unittest.TestCase):
    def world(self, nudges=True):
        beds = [("wait", "r", 0, 1, 1, 1), ("wait", "r", 0, 1, 1, -1), ("still", "r", 1, 1, 0)]
        return World({"r": 0, "v": 0}, [[bed] for bed in beds] * 2, nudges=nudges)

    def test_the_order_in_which_they_are_told(self):
        world = self.world()
        steps = [("step", guest) for guest in range(6)]
        self.assertEqual(world.can(world.start()), steps)
        state = ((0, 0), (0,) * 6, (0,) * 6, ((5, 4), (3, 0)))
        self.assertEqual(world.can(state), [
            ("step", 1), ("step", 2), ("late", 0), ("late", 3), ("late", 5),
            ("nudge", 0), ("nudge", 3), ("nudge", 4), ("nudge", 5),
        ])
        state = ((0, 0), (1, 0, 0, 0, 0, 0), (0,) * 6, ((5, 4), (3, 2)))
        self.assertEqual(world.can(state), [
            ("step", 1), ("late", 2), ("late", 3), ("late", 5),
            ("nudge", 2), ("nudge", 3), ("nudge", 4), ("nudge", 5),
        ])

    def test_no_nudges(self):
        world = self.world(nudges=False)
        state = ((0, 0), (0,) * 6, (0,) * 6, ((5, 4), (3, 0)))
        self.assertEqual(world.can(state), [("step", 1), ("step", 2), ("late", 0), ("late", 3), ("late", 5)])
        with self.assertRaises(NoMove) as caught:
            world.after(state, ("nudge", 4))
        self.assertEqual(caught.exception.what, ("nudge", 4))
        rooms_only = World({"r": 0}, [[("wait", "r", 0, 1, 1, -1)]])
        self.assertEqual(rooms_only.can(((0,), (0,), (0,), ((0,),))), [])

    def test_what_is_not_possible(self):
        world = self.world()
        state = ((0, 0), (1, 0, 0, 0, 0, 0), (0,) * 6, ((5, 4), (3,)))
        for move in (
            ("step", 0), ("step", 5), ("step", 3), ("step", 6), ("step", -1), ("step", -6), ("step", BIG),
            ("late", 0), ("late", 1), ("late", 4), ("late", 6), ("late", -1), ("late", -3),
            ("nudge", 0), ("nudge", 1), ("nudge", 6), ("nudge", -1), ("nudge", -BIG),
            ("wake", 1), ("", 1), ("steps", 1), ("Step", 1), ("set", 2), ("nobody", -1),
        ):
            with self.subTest(move=move):
                for again in range(2):
                    with self.assertRaises(NoMove) as caught:
                        world.after(state, move)
                    self.assertIs(type(caught.exception), NoMove)
                    self.assertEqual(caught.exception.what, move)
        for move in world.can(state):
            self.assertTrue(world.is_state(world.after(state, move)))

    def test_told_lists_are_the_askers_own(self):
        world = self.world()
        state = world.start()
        before = list(world.can(state))
        world.can(state).clear()
        self.assertEqual(world.can(state), before)

    def test_a_world_without_guests(self):
        world = World({"r": 0}, [], nudges=True)
        self.assertEqual(world.can(world.start()), [])
        for move in (("step", 0), ("late", 0), ("nudge", -1)):
            with self.assertRaises(NoMove):
                world.after(world.start(), move)


if __name__ == "__main__":
    unittest.main()
