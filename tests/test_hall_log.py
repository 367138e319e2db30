"""The log of halls, twins, and what holds throughout (points 2 and 13)."""

import copy
import unittest

from dozehall.errors import DozeError
from dozehall.hall import Hall
from dozehall.keys import KeyHall

BIG = int("9" * 60)


def both(rooms):
    return [Hall(rooms), KeyHall(rooms, ["key"])]


class Log(unittest.TestCase):
    def test_each_form_with_what_was_left_out(self):
        for hall in both({"a": 0, "b": 0}):
            hall.put("a", 4)
            hall.sleep(1, "a", 3)
            hall.sleep(1, "a", 4, until=0)
            hall.sleep(1, "a", 4)
            hall.sleep(2, "a", 4)
            hall.sleep(3, "a", 4)
            hall.wake("a")
            hall.move("a", "b")
            hall.tick()
            hall.nudge(3)
            hall.rank(3, 5)
            self.assertEqual(hall.log(), [
                ("put", "a", 4),
                ("sleep", 1, "a", 3, None, 255, "changed"),
                ("sleep", 1, "a", 4, 0, 255, "past"),
                ("sleep", 1, "a", 4, None, 255, "asleep"),
                ("sleep", 2, "a", 4, None, 255, "asleep"),
                ("sleep", 3, "a", 4, None, 255, "asleep"),
                ("wake", "a", 1, 255, (1,)),
                ("move", "a", "b", None, 1, 1000, ((2,), (3,))),
                ("tick", 1, ()),
                ("nudge", 3),
                ("rank", 3, 5),
            ])

    def test_each_form_with_all_told(self):
        for hall in both({"a": 0, "b": 0}):
            hall.put("a", -BIG)
            for guest, until in ((7, 6), (5, 6), (3, 5), (1, None)):
                hall.sleep(guest, "a", -BIG, until=until, mask=guest)
            hall.rank(0, -BIG)
            hall.wake("a", most=3, mask=8)
            hall.move("a", "b", still=1, wakes=0, moves=BIG)
            hall.move("a", "b", still=-BIG, wakes=0, moves=2)
            hall.tick(6)
            hall.wake("a", most=BIG, mask=1)
            self.assertEqual(hall.log(), [
                ("put", "a", -BIG),
                ("sleep", 7, "a", -BIG, 6, 7, "asleep"),
                ("sleep", 5, "a", -BIG, 6, 5, "asleep"),
                ("sleep", 3, "a", -BIG, 5, 3, "asleep"),
                ("sleep", 1, "a", -BIG, None, 1, "asleep"),
                ("rank", 0, -BIG),
                ("wake", "a", 3, 8, ()),
                ("move", "a", "b", 1, 0, BIG, None),
                ("move", "a", "b", -BIG, 0, 2, ((), (7, 5))),
                ("tick", 6, (3, 7, 5)),
                ("wake", "a", BIG, 1, (1,)),
            ])

    def test_deeds_that_change_little_stand_there(self):
        for hall in both({"a": 0, "b": 0}):
            hall.put("a", 0)
            hall.wake("a", most=0)
            hall.move("a", "b", wakes=0, moves=0)
            hall.tick(0)
            hall.rank(1, 0)
            self.assertEqual(len(hall.log()), 5)

    def test_refused_deeds_and_looks_put_nothing_there(self):
        for hall in both({"a": 0, "b": 0}):
            hall.sleep(1, "a", 0)
            before = hall.log()
            for deed in (
                lambda: hall.put("c", 1), lambda: hall.sleep(1, "a", 0), lambda: hall.nudge(2),
                lambda: hall.tick(-1), lambda: hall.wake("a", most=-1), lambda: hall.wake("a", mask=256),
                lambda: hall.move("a", "a"), lambda: hall.move("a", "b", moves=-1), lambda: hall.line("c"),
            ):
                with self.assertRaises(DozeError):
                    deed()
                self.assertEqual(hall.log(), before)
            hall.number("a"), hall.line("a"), hall.asleep(), hall.sleeper(1), hall.ending(1), hall.standing(1)
            hall.now(), hall.log(), len(hall), str(hall), hall.twin()
            self.assertEqual(hall.log(), before)

    def test_kinds_of_values(self):
        for hall in both({"a": 0, "b": 0}):
            hall.sleep(1, "a", 0)
            hall.sleep(2, "a", 0)
            hall.move("a", "b")
            hall.tick()
            hall.wake("b")
            self.assertIs(type(hall.log()), list)
            for entry in hall.log():
                self.assertIs(type(entry), tuple)
                for part in entry:
                    self.assertIn(type(part), (str, int, tuple, type(None)))
            told = hall.log()[2][-1]
            self.assertEqual([type(told), type(told[0]), type(told[1])], [tuple] * 3)


class Twins(unittest.TestCase):
    def test_the_same_class(self):
        self.assertIs(type(Hall({"a": 0}).twin()), Hall)
        self.assertIs(type(KeyHall({"a": 0}, ["k"]).twin()), KeyHall)
        self.assertIs(type(KeyHall({"a": 0}, ()).twin().twin()), KeyHall)

    def test_in_all_alike(self):
        for hall in both({"a": 0, "b": 0}):
            hall.put("b", 9)
            hall.rank(3, 4)
            for guest in (1, 2, 3):
                hall.sleep(guest, "a", 0, until=20 - guest, mask=guest)
            hall.tick(5)
            hall.move("a", "b", wakes=1, moves=1)
            twin = hall.twin()
            self.assertEqual(twin.now(), 5)
            self.assertEqual(twin.log(), hall.log())
            self.assertEqual(str(twin), str(hall))
            self.assertEqual(len(twin), len(hall))
            for room in ("a", "b"):
                self.assertEqual(twin.number(room), hall.number(room))
                self.assertEqual(twin.line(room), hall.line(room))
            for guest in range(5):
                self.assertEqual(twin.sleeper(guest), hall.sleeper(guest))
                self.assertEqual(twin.ending(guest), hall.ending(guest))
                self.assertEqual(twin.standing(guest), hall.standing(guest))

    def test_turns_go_on(self):
        for hall in both({"a": 0}):
            for guest in (1, 2, 3):
                hall.sleep(guest, "a", 0, until=4)
            twin = hall.twin()
            twin.sleep(4, "a", 0, until=4)
            self.assertEqual(twin.line("a"), [1, 2, 3, 4])
            self.assertEqual(twin.tick(4), [1, 2, 3, 4])

    def test_what_is_done_in_the_one_changes_nothing_in_the_other(self):
        deeds = (
            lambda hall: hall.put("a", 3),
            lambda hall: hall.rank(1, 9),
            lambda hall: hall.sleep(5, "b", 0),
            lambda hall: hall.wake("a"),
            lambda hall: hall.move("a", "b"),
            lambda hall: hall.tick(30),
            lambda hall: hall.nudge(2),
        )
        for number, deed in enumerate(deeds):
            for first in (True, False):
                for hall in both({"a": 0, "b": 0}):
                    hall.sleep(1, "a", 0, until=8)
                    hall.sleep(2, "a", 0)
                    twin = hall.twin()
                    other = hall.twin()
                    with self.subTest(deed=number, first=first):
                        deed(hall if first else twin)
                        left = twin if first else hall
                        for look in (
                            lambda one: (one.now(), one.log(), one.asleep(), str(one), len(one)),
                            lambda one: [(one.number(room), one.line(room)) for room in ("a", "b")],
                            lambda one: [(one.sleeper(g), one.ending(g), one.standing(g)) for g in range(6)],
                        ):
                            self.assertEqual(look(left), look(other))


class Throughout(unittest.TestCase):
    def test_the_rooms_stay(self):
        for make in (Hall, lambda rooms: KeyHall(rooms, ["k"])):
            rooms = {"b": 1, "a": 2}
            hall = make(rooms)
            hall.put("a", 7)
            hall.sleep(1, "b", 1)
            self.assertEqual(rooms, {"b": 1, "a": 2})
            self.assertEqual(list(rooms), ["b", "a"])
            rooms["a"] = 55
            rooms["c"] = 56
            del rooms["b"]
            self.assertEqual(hall.number("a"), 7)
            self.assertEqual(hall.number("b"), 1)
            with self.assertRaises(DozeError):
                hall.number("c")

    def test_told_lists_are_the_askers_own(self):
        for hall in both({"a": 0, "b": 0}):
            for guest in (1, 2, 3, 4, 5):
                hall.sleep(guest, "a", 0, until=guest // 4 + 1)
            woken = hall.wake("a")
            told = hall.move("a", "b", wakes=1, moves=1)
            late = hall.tick()
            log = hall.log()
            for look in (hall.asleep, hall.log, lambda: hall.line("a"), lambda: hall.line("b")):
                before = copy.deepcopy(look())
                look().clear()
                look().append(77)
                self.assertEqual(look(), before)
            for part in (woken, told[0], told[1], late):
                part.clear()
            self.assertEqual(hall.log(), log)
            self.assertEqual(hall.asleep(), [4, 5])

    def test_the_moved_ones_that_were_told_are_the_askers_own(self):
        for hall in both({"a": 0, "b": 0}):
            hall.sleep(1, "a", 0)
            hall.sleep(2, "a", 0)
            hall.move("a", "b", wakes=0)[1].reverse()
            self.assertEqual(hall.line("b"), [1, 2])
            self.assertEqual(hall.log()[-1], ("move", "a", "b", None, 0, 1000, ((), (1, 2))))

    def test_arguments_by_their_names(self):
        halls = [Hall(rooms={"a": 0, "b": 0}), KeyHall({"a": 0, "b": 0}, ["k"])]
        for hall in halls:
            hall.put(room="a", number=3)
            hall.put(number=4, room="a")
            self.assertEqual(hall.sleep(guest=1, room="a", still=4, until=9, mask=3), "asleep")
            self.assertEqual(hall.sleep(still=4, guest=2, room="a"), "asleep")
            self.assertIsNone(hall.rank(guest=2, rank=1))
            self.assertEqual(hall.wake(room="a", most=1, mask=3), [2])
            self.assertEqual(hall.move(room="a", other="b", still=4, wakes=0, moves=1), ([], [1]))
            self.assertIsNone(hall.nudge(guest=1))
            self.assertEqual(hall.tick(by=4), [])
            self.assertEqual(hall.number(room="a"), 4)
            self.assertEqual(hall.line(room="b"), [])
            self.assertIsNone(hall.sleeper(guest=1))
            self.assertEqual(hall.ending(guest=1), "nudged")
            self.assertEqual(hall.standing(guest=2), 1)

    def test_those_behind_the_star_by_their_names_alone(self):
        for hall in both({"a": 0, "b": 0}):
            for deed in (
                lambda: hall.sleep(1, "a", 0, 9), lambda: hall.wake("a", 1), lambda: hall.move("a", "b", 0),
            ):
                with self.assertRaises(TypeError):
                    deed()
            self.assertEqual(hall.log(), [])

    def test_asked_again_the_same_is_told(self):
        for hall in both({"a": 0}):
            hall.sleep(1, "a", 0, until=5, mask=4)
            for look in (
                lambda: hall.number("a"), lambda: hall.line("a"), hall.asleep, lambda: hall.sleeper(1),
                lambda: hall.ending(1), lambda: hall.standing(1), hall.now, hall.log, lambda: len(hall),
                lambda: str(hall), lambda: str(hall.twin()),
            ):
                self.assertEqual(look(), look())

    def test_edges_of_numbers_and_guests(self):
        for hall in both({"a": BIG, "aaaaaaaa": -BIG}):
            self.assertEqual(hall.sleep(0, "a", BIG, until=BIG), "asleep")
            self.assertEqual(hall.sleep(999999, "aaaaaaaa", -BIG, until=BIG), "asleep")
            hall.rank(0, -BIG)
            hall.rank(999999, BIG)
            self.assertEqual(hall.move("a", "aaaaaaaa", wakes=0, moves=BIG), ([], [0]))
            self.assertEqual(hall.line("aaaaaaaa"), [999999, 0])
            self.assertEqual(hall.tick(BIG - 1), [])
            self.assertEqual(hall.tick(BIG), [0, 999999])


if __name__ == "__main__":
    unittest.main()
