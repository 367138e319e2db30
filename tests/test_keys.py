"""Halls with keys (points 16 to 20)."""

import unittest

from dozehall.errors import Asleep, Awake, DozeError, NoKey, NoRoom, NotHolder, Ring, TwoNames
from dozehall.hall import Hall
from dozehall.keys import KeyHall

BIG = int("9" * 60)


def hall_of(*takes, rooms=None, keys=("k", "l", "m", "n")):
    """A hall in which these pairs of a guest and a key were taken, in their order."""
    hall = KeyHall({"a": 0, "b": 0} if rooms is None else rooms, list(keys))
    for guest, key in takes:
        hall.take(guest, key)
    return hall


def picture(hall):
    """All that looks tell."""
    keys = ("k", "l", "m", "n")
    return (
        hall.now(), hall.log(), hall.asleep(), len(hall), str(hall),
        [(hall.number(room), hall.line(room)) for room in ("a", "b")],
        [(hall.holder(key), hall.waits(key)) for key in keys],
        [(hall.sleeper(g), hall.ending(g), hall.standing(g), hall.held(g), hall.chain(g)) for g in range(12)],
    )


class Making(unittest.TestCase):
    def test_under_hall(self):
        hall = KeyHall({"a": 1}, ["k"])
        self.assertIsInstance(hall, Hall)
        self.assertIsNone(hall.holder("k"))
        self.assertEqual(hall.waits("k"), [])
        self.assertEqual(hall.held(0), [])
        self.assertEqual(hall.chain(0), [0])
        self.assertEqual(hall.standing(0), 0)

    def test_keys_as_a_list_and_as_a_tuple(self):
        for keys in (["k", "l"], ("k", "l"), [], ()):
            hall = KeyHall({"a": 1}, keys)
            for key in keys:
                self.assertIsNone(hall.holder(key))

    def test_without_keys_or_rooms(self):
        with self.assertRaises(NoKey):
            KeyHall({"a": 1}, []).take(1, "k")
        self.assertEqual(KeyHall({}, ["k"]).take(1, "k"), "held")
        self.assertEqual(KeyHall({}, []).tick(), [])

    def test_two_names(self):
        for rooms, keys, name in (
            ({}, ["k", "k"], "k"),
            ({"a": 0}, ["a"], "a"),
            ({"a": 0, "b": 0}, ["k", "b", "a"], "b"),
            ({"a": 0}, ["k", "l", "l", "k", "a"], "l"),
            ({"a": 0}, ["k", "l", "m", "k", "l"], "k"),
            ({"a": 0}, ["k", "a", "k"], "a"),
            ({"a": 0}, ["k", "k", "a"], "k"),
            ({"a": 0, "b": 0}, ["k", "l", "b"], "b"),
        ):
            for told in (keys, tuple(keys)):
                with self.subTest(keys=told):
                    with self.assertRaises(TwoNames) as caught:
                        KeyHall(rooms, told)
                    self.assertIs(type(caught.exception), TwoNames)
                    self.assertEqual(caught.exception.what, name)

    def test_the_list_of_keys_stays(self):
        keys = ["l", "k"]
        hall = KeyHall({"a": 0}, keys)
        hall.take(1, "k")
        hall.take(2, "k")
        self.assertEqual(keys, ["l", "k"])
        keys.append("m")
        keys.remove("k")
        self.assertEqual(hall.holder("k"), 1)
        with self.assertRaises(NoKey):
            hall.holder("m")
        keys.clear()
        self.assertEqual(hall.twin().waits("k"), [2])

    def test_a_key_is_no_room(self):
        hall = hall_of((1, "k"), (2, "k"))
        before = picture(hall)
        for deed in (
            lambda: hall.put("k", 1), lambda: hall.sleep(3, "k", 0), lambda: hall.wake("k"),
            lambda: hall.move("k", "a"), lambda: hall.move("a", "k"), lambda: hall.number("k"),
            lambda: hall.line("k"), lambda: hall.move("k", "k"), lambda: hall.move("k", "l"),
        ):
            with self.assertRaises(NoRoom) as caught:
                deed()
            self.assertEqual(caught.exception.what, "k")
        self.assertEqual(picture(hall), before)

    def test_a_room_is_no_key(self):
        hall = hall_of((1, "k"))
        before = picture(hall)
        for name in ("a", "z", "kk"):
            for deed in (
                lambda: hall.take(2, name), lambda: hall.give(1, name), lambda: hall.holder(name),
                lambda: hall.waits(name),
            ):
                with self.assertRaises(NoKey) as caught:
                    deed()
                self.assertIs(type(caught.exception), NoKey)
                self.assertEqual(caught.exception.what, name)
        self.assertEqual(picture(hall), before)


class Takes(unittest.TestCase):
    def test_held(self):
        hall = hall_of()
        self.assertEqual(hall.take(4, "l"), "held")
        self.assertEqual(hall.holder("l"), 4)
        self.assertEqual(hall.ending(4), "held")
        self.assertIsNone(hall.sleeper(4))
        self.assertEqual(hall.take(4, "k"), "held")
        self.assertEqual(hall.held(4), ["k", "l"])
        self.assertEqual(len(hall), 0)

    def test_held_whatever_the_until(self):
        hall = hall_of()
        hall.tick(5)
        for key, until in (("k", 0), ("l", 5), ("m", -BIG), ("n", 6)):
            self.assertEqual(hall.take(1, key, until=until), "held")

    def test_asleep(self):
        hall = hall_of((1, "k"))
        self.assertEqual(hall.take(2, "k"), "asleep")
        self.assertEqual(hall.take(3, "k", until=9), "asleep")
        self.assertEqual(hall.waits("k"), [2, 3])
        self.assertEqual(hall.holder("k"), 1)
        self.assertEqual(hall.sleeper(2), ("k", None, 255))
        self.assertEqual(hall.sleeper(3), ("k", 9, 255))
        self.assertEqual(hall.ending(2), "asleep")
        self.assertEqual(hall.held(2), [])
        self.assertEqual(str(hall), "at 0: 2 3")
        self.assertEqual(len(hall), 2)

    def test_past(self):
        hall = hall_of((1, "k"))
        hall.tick(5)
        for until in (5, 4, 0, -BIG):
            self.assertEqual(hall.take(2, "k", until=until), "past")
            self.assertEqual(hall.ending(2), "past")
            self.assertEqual(hall.waits("k"), [])
        self.assertEqual(hall.take(2, "k", until=6), "asleep")

    def test_late_and_nudged(self):
        hall = hall_of((1, "k"))
        hall.take(2, "k", until=3)
        hall.take(3, "k")
        hall.sleep(4, "a", 0, until=3)
        hall.take(5, "k", until=2)
        self.assertEqual(hall.tick(3), [5, 2, 4])
        self.assertEqual(hall.ending(2), "late")
        self.assertEqual(hall.waits("k"), [3])
        hall.nudge(3)
        self.assertEqual(hall.ending(3), "nudged")
        self.assertEqual(hall.waits("k"), [])
        self.assertEqual(hall.holder("k"), 1)

    def test_equal_untils_of_sleeps_and_takes_by_their_deeds(self):
        hall = hall_of((1, "k"))
        hall.take(9, "k", until=3)
        hall.sleep(2, "a", 0, until=3)
        hall.take(7, "k", until=3)
        hall.sleep(0, "b", 0, until=3)
        hall.rank(7, 3)
        self.assertEqual(hall.tick(3), [9, 2, 7, 0])

    def test_a_holder_may_sleep_in_a_room(self):
        hall = hall_of((1, "k"))
        self.assertEqual(hall.sleep(1, "a", 0), "asleep")
        self.assertEqual(hall.held(1), ["k"])
        self.assertEqual(hall.take(2, "k"), "asleep")
        hall.wake("a")
        self.assertEqual(hall.ending(1), "woken")
        self.assertEqual(hall.give(1, "k"), 2)


class Gives(unittest.TestCase):
    def test_to_the_first_of_the_line(self):
        hall = hall_of((1, "k"), (2, "k"), (3, "k"), (4, "k"))
        hall.rank(3, 1)
        self.assertEqual(hall.give(1, "k"), 3)
        self.assertEqual(hall.holder("k"), 3)
        self.assertEqual(hall.waits("k"), [2, 4])
        self.assertEqual(hall.ending(3), "held")
        self.assertIsNone(hall.sleeper(3))
        self.assertEqual(hall.asleep(), [2, 4])
        self.assertEqual(hall.ending(1), "held")
        self.assertEqual(hall.give(3, "k"), 2)
        self.assertEqual(hall.give(2, "k"), 4)
        self.assertIsNone(hall.give(4, "k"))
        self.assertIsNone(hall.holder("k"))

    def test_to_guest_0(self):
        hall = hall_of((1, "k"), (0, "k"))
        self.assertEqual(hall.give(1, "k"), 0)
        self.assertEqual(hall.holder("k"), 0)
        self.assertEqual(hall.held(0), ["k"])
        self.assertEqual(hall.take(1, "k"), "asleep")

    def test_to_nobody(self):
        hall = hall_of((1, "k"))
        self.assertIsNone(hall.give(1, "k"))
        self.assertIsNone(hall.holder("k"))
        self.assertEqual(hall.held(1), [])
        self.assertEqual(hall.take(1, "k"), "held")

    def test_whatever_the_until_of_the_first(self):
        hall = hall_of((1, "k"))
        hall.take(2, "k", until=1)
        self.assertEqual(hall.give(1, "k"), 2)
        self.assertEqual(hall.tick(4), [])
        self.assertEqual(hall.ending(2), "held")

    def test_late_and_nudged_ones_are_given_nothing(self):
        hall = hall_of((1, "k"), (2, "k"))
        hall.take(3, "k", until=1)
        hall.nudge(2)
        hall.tick()
        self.assertIsNone(hall.give(1, "k"))

    def test_other_keys_stay(self):
        hall = hall_of((1, "k"), (1, "l"), (2, "l"), (3, "k"))
        self.assertEqual(hall.give(1, "k"), 3)
        self.assertEqual(hall.held(1), ["l"])
        self.assertEqual(hall.waits("l"), [2])


class Standings(unittest.TestCase):
    def test_lent_to_the_holder(self):
        hall = hall_of((1, "k"), (2, "k"), (3, "k"))
        hall.rank(2, 5)
        hall.rank(3, 7)
        self.assertEqual(hall.standing(1), 7)
        self.assertEqual(hall.chain(1), [1, 3])
        hall.rank(1, 8)
        self.assertEqual(hall.standing(1), 8)
        self.assertEqual(hall.chain(1), [1])
        self.assertEqual(hall.standing(2), 5)

    def test_ranks_below_0(self):
        hall = hall_of((1, "k"), (2, "k"))
        hall.rank(1, -9)
        self.assertEqual(hall.standing(1), 0)
        self.assertEqual(hall.chain(1), [1, 2])
        hall.rank(2, -BIG)
        self.assertEqual(hall.standing(1), -9)
        self.assertEqual(hall.chain(1), [1])

    def test_over_several_keys(self):
        hall = hall_of((1, "k"), (1, "l"), (1, "m"), (2, "k"), (3, "l"), (4, "m"), (5, "m"))
        for guest, rank in ((2, 3), (3, 8), (4, 5), (5, 6)):
            hall.rank(guest, rank)
        self.assertEqual(hall.standing(1), 8)
        self.assertEqual(hall.chain(1), [1, 3])
        hall.nudge(3)
        self.assertEqual(hall.standing(1), 6)
        self.assertEqual(hall.chain(1), [1, 5])
        hall.give(1, "m")
        self.assertEqual(hall.standing(1), 3)
        self.assertEqual(hall.standing(5), 6)

    def test_over_chains_of_holders(self):
        hall = hall_of((1, "k"), (2, "l"), (3, "m"), (4, "n"), (2, "k"), (3, "l"), (4, "m"), (5, "n"))
        hall.rank(5, BIG)
        for guest in (1, 2, 3, 4, 5):
            self.assertEqual(hall.standing(guest), BIG)
            self.assertEqual(hall.chain(guest), list(range(guest, 6)))
        hall.rank(5, 0)
        hall.rank(3, 4)
        self.assertEqual([hall.standing(guest) for guest in (1, 2, 3, 4, 5)], [4, 4, 4, 0, 0])
        self.assertEqual(hall.chain(1), [1, 2, 3])

    def test_who_sleeps_in_a_room_lends_nothing(self):
        hall = hall_of((1, "k"))
        hall.rank(2, 9)
        hall.sleep(2, "a", 0)
        self.assertEqual(hall.standing(1), 0)

    def test_a_lent_standing_orders_the_line_of_a_room(self):
        hall = hall_of((1, "k"))
        hall.sleep(2, "a", 0)
        hall.sleep(1, "a", 0)
        hall.rank(3, 5)
        self.assertEqual(hall.line("a"), [2, 1])
        hall.take(3, "k", until=7)
        self.assertEqual(hall.line("a"), [1, 2])
        hall.rank(2, 6)
        self.assertEqual(hall.line("a"), [2, 1])
        hall.rank(2, 0)
        self.assertEqual(hall.line("a"), [1, 2])
        hall.tick(7)
        self.assertEqual(hall.line("a"), [2, 1])
        hall.take(3, "k")
        self.assertEqual(hall.line("a"), [1, 2])
        hall.nudge(3)
        self.assertEqual(hall.line("a"), [2, 1])
        hall.take(3, "k")
        self.assertEqual(hall.wake("a"), [1])

    def test_a_lent_standing_orders_the_line_of_a_key(self):
        hall = hall_of((1, "k"), (2, "l"), (3, "k"), (2, "k"))
        self.assertEqual(hall.waits("k"), [3, 2])
        hall.rank(4, 5)
        self.assertEqual(hall.take(4, "l"), "asleep")
        self.assertEqual(hall.waits("k"), [2, 3])
        self.assertEqual(hall.standing(1), 5)
        self.assertEqual(hall.give(1, "k"), 2)
        self.assertEqual(hall.standing(1), 0)
        self.assertEqual(hall.standing(2), 5)

    def test_a_give_changes_standings(self):
        # Guest 1 sleeps in a room where it is, while guest 2 gives a key for which guest 4 waits.
        hall = hall_of((2, "k"), (1, "l"), (2, "m"))
        hall.rank(4, 6)
        hall.take(3, "k")
        hall.take(4, "k")
        hall.sleep(1, "a", 0)
        self.assertEqual(hall.standing(2), 6)
        self.assertEqual(hall.give(2, "k"), 4)
        self.assertEqual(hall.standing(2), 0)
        hall.sleep(2, "a", 0)
        self.assertEqual(hall.line("a"), [1, 2])
        self.assertEqual(hall.take(4, "m"), "asleep")
        self.assertEqual(hall.line("a"), [2, 1])

    def test_lines_behind_a_wake_and_a_move(self):
        hall = hall_of((1, "k"), (2, "l"))
        for guest in (5, 1, 2, 6):
            hall.sleep(guest, "a", 0)
        hall.rank(7, 3)
        hall.rank(8, 2)
        hall.take(7, "l")
        hall.take(8, "k")
        self.assertEqual(hall.line("a"), [2, 1, 5, 6])
        self.assertEqual(hall.wake("a"), [2])
        self.assertEqual(hall.line("a"), [1, 5, 6])
        hall.sleep(9, "b", 0)
        self.assertEqual(hall.move("a", "b", wakes=0), ([], [1, 5, 6]))
        self.assertEqual(hall.line("b"), [1, 9, 5, 6])
        self.assertEqual(hall.give(2, "l"), 7)
        self.assertEqual(hall.standing(2), 0)
        hall.nudge(8)
        self.assertEqual(hall.line("b"), [9, 1, 5, 6])

    def test_a_chain_holds_whichever_is_told(self):
        hall = hall_of((1, "k"), (1, "l"), (2, "k"), (3, "l"))
        hall.rank(2, 4)
        hall.rank(3, 4)
        self.assertIn(hall.chain(1), ([1, 2], [1, 3]))

    def test_a_long_chain(self):
        letters = "abcdefghijklmnopqrstuvwxyz"
        keys = [one + two for one in "kmn" for two in letters]
        hall = KeyHall({}, keys)
        for guest, key in enumerate(keys):
            hall.take(guest, key)
        for guest in range(1, len(keys)):
            self.assertEqual(hall.take(guest, keys[guest - 1]), "asleep")
        hall.rank(len(keys) - 1, 3)
        self.assertEqual(hall.chain(0), list(range(len(keys))))
        with self.assertRaises(Ring) as caught:
            hall.take(0, keys[-1])
        self.assertEqual(caught.exception.what, list(range(len(keys) - 1, -1, -1)))


class Refusals(unittest.TestCase):
    def refused(self, hall, kind, what, deed):
        before = picture(hall)
        for again in range(2):
            with self.assertRaises(kind) as caught:
                deed()
            self.assertIs(type(caught.exception), kind)
            self.assertEqual(caught.exception.what, what)
            self.assertEqual(picture(hall), before)

    def test_rings(self):
        hall = hall_of((1, "k"), (2, "l"), (3, "m"), (1, "n"))
        self.refused(hall, Ring, [1], lambda: hall.take(1, "k"))
        self.refused(hall, Ring, [1], lambda: hall.take(1, "n"))
        hall.take(1, "l")
        self.refused(hall, Ring, [1, 2], lambda: hall.take(2, "k"))
        self.refused(hall, Ring, [2], lambda: hall.take(2, "l"))
        hall.take(2, "m")
        self.refused(hall, Ring, [1, 2, 3], lambda: hall.take(3, "n"))
        self.refused(hall, Ring, [2, 3], lambda: hall.take(3, "l"))
        self.assertEqual(hall.take(4, "k"), "asleep")

    def test_a_ring_goes_ahead_of_past(self):
        hall = hall_of((1, "k"), (2, "l"))
        hall.take(1, "l")
        hall.tick(5)
        self.refused(hall, Ring, [2], lambda: hall.take(2, "l", until=0))
        self.refused(hall, Ring, [1, 2], lambda: hall.take(2, "k", until=5))

    def test_no_ring_over_a_room(self):
        hall = hall_of((1, "k"), (2, "l"))
        hall.sleep(1, "a", 0)
        self.assertEqual(hall.take(2, "k"), "asleep")

    def test_no_ring_behind_a_nudge(self):
        hall = hall_of((1, "k"), (2, "l"), (1, "l"))
        hall.nudge(1)
        self.assertEqual(hall.take(2, "k"), "asleep")

    def test_asleep(self):
        hall = hall_of((1, "k"), (2, "l"), (2, "k"))
        self.refused(hall, Asleep, 2, lambda: hall.take(2, "m"))
        self.refused(hall, Asleep, 2, lambda: hall.take(2, "k"))
        self.refused(hall, Asleep, 2, lambda: hall.take(2, "l"))
        self.refused(hall, Asleep, 2, lambda: hall.give(2, "l"))
        self.refused(hall, Asleep, 2, lambda: hall.give(2, "k"))
        self.refused(hall, Asleep, 2, lambda: hall.give(2, "m"))
        self.refused(hall, Asleep, 2, lambda: hall.sleep(2, "a", 0))
        hall.sleep(1, "a", 0)
        self.refused(hall, Asleep, 1, lambda: hall.give(1, "k"))
        self.refused(hall, Asleep, 1, lambda: hall.take(1, "n"))

    def test_not_holder(self):
        hall = hall_of((1, "k"), (2, "l"))
        self.refused(hall, NotHolder, 2, lambda: hall.give(2, "k"))
        self.refused(hall, NotHolder, 3, lambda: hall.give(3, "k"))
        self.refused(hall, NotHolder, 0, lambda: hall.give(0, "m"))
        hall.give(1, "k")
        self.refused(hall, NotHolder, 1, lambda: hall.give(1, "k"))

    def test_no_key_goes_first(self):
        hall = hall_of((1, "k"), (2, "k"))
        self.refused(hall, NoKey, "a", lambda: hall.take(2, "a"))
        self.refused(hall, NoKey, "a", lambda: hall.give(2, "a"))
        self.refused(hall, NoKey, "z", lambda: hall.give(9, "z"))

    def test_awake_and_the_rest_of_stage_1(self):
        hall = hall_of((1, "k"))
        self.refused(hall, Awake, 1, lambda: hall.nudge(1))


class Log(unittest.TestCase):
    def test_takes_and_gives(self):
        hall = hall_of((1, "k"))
        hall.take(2, "k", until=8)
        hall.tick(3)
        hall.take(3, "k", until=3)
        hall.give(1, "k")
        hall.give(2, "k")
        self.assertEqual(hall.log(), [
            ("take", 1, "k", None, "held"),
            ("take", 2, "k", 8, "asleep"),
            ("tick", 3, ()),
            ("take", 3, "k", 3, "past"),
            ("give", 1, "k", 2),
            ("give", 2, "k", None),
        ])

    def test_endings(self):
        hall = hall_of((1, "k"))
        told = [hall.ending(2)]
        hall.take(2, "k", until=0)
        told.append(hall.ending(2))
        hall.take(2, "k")
        told.append(hall.ending(2))
        hall.nudge(2)
        told.append(hall.ending(2))
        hall.take(2, "k", until=1)
        hall.tick()
        told.append(hall.ending(2))
        hall.take(2, "k")
        hall.give(1, "k")
        told.append(hall.ending(2))
        hall.sleep(2, "a", 3)
        told.append(hall.ending(2))
        hall.take(2, "l")
        told.append(hall.ending(2))
        hall.give(2, "l")
        told.append(hall.ending(2))
        self.assertEqual(told, ["new", "past", "asleep", "nudged", "late", "held", "changed", "held", "held"])

    def test_by_their_names(self):
        hall = hall_of()
        self.assertEqual(hall.take(guest=1, key="k"), "held")
        self.assertEqual(hall.take(key="k", guest=2, until=4), "asleep")
        self.assertEqual(hall.give(key="k", guest=1), 2)
        with self.assertRaises(TypeError):
            hall.take(3, "k", 5)

    def test_told_lists_are_the_askers_own(self):
        hall = hall_of((1, "k"), (2, "k"))
        hall.rank(2, 4)
        for look in (lambda: hall.waits("k"), lambda: hall.held(1), lambda: hall.chain(1), hall.log, hall.asleep):
            before = list(look())
            self.assertTrue(before)
            look().clear()
            look().append(0)
            self.assertEqual(look(), before)

    def test_the_list_of_a_ring_is_the_askers_own(self):
        hall = hall_of((1, "k"), (2, "l"), (1, "l"))
        for again in range(2):
            with self.assertRaises(Ring) as caught:
                hall.take(2, "k")
            self.assertEqual(caught.exception.what, [1, 2])
            caught.exception.what.clear()

    def test_held_is_sorted(self):
        hall = hall_of(keys=("z", "c", "y", "d"))
        for key in ("y", "d", "z", "c"):
            hall.take(1, key)
        self.assertEqual(hall.held(1), ["c", "d", "y", "z"])

    def test_of_guests_that_no_deed_named(self):
        hall = hall_of((1, "k"), (2, "k"))
        for guest in (0, 7, 999999):
            self.assertEqual(hall.held(guest), [])
            self.assertEqual(hall.chain(guest), [guest])
            self.assertEqual(hall.standing(guest), 0)
            self.assertEqual(hall.ending(guest), "new")
            self.assertIsNone(hall.sleeper(guest))


class Twins(unittest.TestCase):
    def test_apart(self):
        deeds = (
            lambda hall: hall.take(5, "m"), lambda hall: hall.take(5, "k"), lambda hall: hall.give(1, "k"),
            lambda hall: hall.rank(3, 8), lambda hall: hall.nudge(2), lambda hall: hall.tick(9),
            lambda hall: hall.put("a", 4), lambda hall: hall.sleep(6, "a", 0),
        )
        for deed in deeds:
            for first in (True, False):
                hall = hall_of((1, "k"), (2, "k"))
                hall.take(3, "k", until=4)
                hall.rank(2, 2)
                twin = hall.twin()
                before = picture(hall)
                self.assertEqual(picture(twin), before)
                deed(hall if first else twin)
                self.assertEqual(picture(twin if first else hall), before)
                self.assertNotEqual(picture(hall if first else twin), before)

    def test_refusals_stay_catchable_alike(self):
        twin = hall_of((1, "k")).twin()
        with self.assertRaises(DozeError):
            twin.take(1, "k")
        self.assertEqual(twin.take(2, "k"), "asleep")


class Body(unittest.TestCase):
    def test_each_listed_method_stands_in_its_class(self):
        deeds = ["put", "nudge", "rank", "sleep", "wake", "move", "tick"]
        looks = ["number", "line", "asleep", "sleeper", "ending", "standing", "now", "log", "twin"]
        names = deeds + looks + ["__init__", "__len__", "__str__"]
        for name in names:
            self.assertIn(name, vars(Hall))
        for name in names + ["take", "give", "holder", "waits", "held", "chain"]:
            self.assertIn(name, vars(KeyHall))


if __name__ == "__main__":
    unittest.main()
