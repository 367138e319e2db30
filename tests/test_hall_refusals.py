"""The refusals of halls: their classes, what they are made of, and their order (point 12)."""

import unittest

from dozehall.errors import Asleep, Awake, BadCount, NoRoom, SameRoom
from dozehall.hall import Hall
from dozehall.keys import KeyHall

BIG = int("9" * 60)


def halls():
    """Halls with a room of each of the numbers, in which guest 1 sleeps."""
    told = [Hall({"a": 0, "b": 5}), KeyHall({"a": 0, "b": 5}, ["key"])]
    for hall in told:
        hall.sleep(1, "a", 0, until=9)
    return told


def picture(hall):
    """All that looks tell."""
    guests = range(12)
    return (
        hall.now(), hall.log(), hall.asleep(), len(hall), str(hall),
        [hall.number(room) for room in ("a", "b")], [hall.line(room) for room in ("a", "b")],
        [(hall.sleeper(guest), hall.ending(guest), hall.standing(guest)) for guest in guests],
    )


class Refusals(unittest.TestCase):
    def refused(self, kind, what, deed):
        """Twice, since what was refused is refused alike if it is asked again."""
        for hall in halls():
            before = picture(hall)
            for again in range(2):
                with self.assertRaises(kind) as caught:
                    deed(hall)
                self.assertIs(type(caught.exception), kind)
                self.assertEqual(caught.exception.what, what)
                self.assertIs(type(caught.exception.what), type(what))
                self.assertEqual(picture(hall), before)

    def test_no_room(self):
        for name in ("c", "ab", "key", "aaaaaaaa"):
            self.refused(NoRoom, name, lambda hall: hall.put(name, 1))
            self.refused(NoRoom, name, lambda hall: hall.sleep(2, name, 0))
            self.refused(NoRoom, name, lambda hall: hall.wake(name))
            self.refused(NoRoom, name, lambda hall: hall.move(name, "a"))
            self.refused(NoRoom, name, lambda hall: hall.move("a", name))
            self.refused(NoRoom, name, lambda hall: hall.number(name))
            self.refused(NoRoom, name, lambda hall: hall.line(name))

    def test_of_two_names_the_first(self):
        self.refused(NoRoom, "x", lambda hall: hall.move("x", "y"))
        self.refused(NoRoom, "y", lambda hall: hall.move("y", "x"))
        self.refused(NoRoom, "x", lambda hall: hall.move(other="y", room="x"))

    def test_no_rooms_at_all(self):
        hall = Hall({})
        with self.assertRaises(NoRoom) as caught:
            hall.put("a", 1)
        self.assertEqual(caught.exception.what, "a")
        self.assertEqual(hall.log(), [])

    def test_asleep(self):
        self.refused(Asleep, 1, lambda hall: hall.sleep(1, "a", 0))
        self.refused(Asleep, 1, lambda hall: hall.sleep(1, "b", 5))

    def test_asleep_goes_ahead_of_answers(self):
        self.refused(Asleep, 1, lambda hall: hall.sleep(1, "a", 3))
        self.refused(Asleep, 1, lambda hall: hall.sleep(1, "a", 0, until=-1))

    def test_asleep_wherever_it_was_moved(self):
        for hall in halls():
            hall.move("a", "b", wakes=0)
            with self.assertRaises(Asleep) as caught:
                hall.sleep(1, "a", 0)
            self.assertEqual(caught.exception.what, 1)

    def test_awake(self):
        for guest in (0, 2, 999999):
            self.refused(Awake, guest, lambda hall: hall.nudge(guest))

    def test_awake_behind_a_sleep(self):
        for hall in halls():
            hall.wake("a")
            with self.assertRaises(Awake) as caught:
                hall.nudge(1)
            self.assertEqual(caught.exception.what, 1)
            self.assertEqual(hall.ending(1), "woken")

    def test_bad_counts(self):
        for count in (-1, -2, -BIG):
            self.refused(BadCount, count, lambda hall: hall.tick(count))
            self.refused(BadCount, count, lambda hall: hall.wake("a", most=count))
            self.refused(BadCount, count, lambda hall: hall.move("a", "b", wakes=count))
            self.refused(BadCount, count, lambda hall: hall.move("a", "b", moves=count))

    def test_bad_masks(self):
        for mask in (0, -1, 256, BIG, -BIG):
            self.refused(BadCount, mask, lambda hall: hall.sleep(2, "a", 0, mask=mask))
            self.refused(BadCount, mask, lambda hall: hall.wake("a", mask=mask))

    def test_the_last_good_ones(self):
        for hall in halls():
            for guest, mask in ((2, 1), (3, 255)):
                self.assertEqual(hall.sleep(guest, "a", 0, mask=mask), "asleep")
            for mask in (1, 255):
                self.assertEqual(hall.wake("a", most=0, mask=mask), [])

    def test_bad_counts_go_ahead_of_answers(self):
        self.refused(BadCount, 256, lambda hall: hall.sleep(2, "a", 77, mask=256))
        self.refused(BadCount, 0, lambda hall: hall.sleep(2, "a", 0, until=0, mask=0))
        self.refused(BadCount, -1, lambda hall: hall.move("a", "b", still=77, wakes=-1))
        self.refused(BadCount, -3, lambda hall: hall.move("a", "b", still=77, moves=-3))
        self.refused(BadCount, 0, lambda hall: hall.wake("b", most=0, mask=0))

    def test_of_two_bad_counts_the_first(self):
        self.refused(BadCount, -7, lambda hall: hall.wake("a", most=-7, mask=0))
        self.refused(BadCount, -7, lambda hall: hall.wake("a", mask=0, most=-7))
        self.refused(BadCount, -8, lambda hall: hall.move("a", "b", wakes=-8, moves=-9))
        self.refused(BadCount, -8, lambda hall: hall.move("a", "b", moves=-9, wakes=-8))

    def test_same_room(self):
        self.refused(SameRoom, "a", lambda hall: hall.move("a", "a"))
        self.refused(SameRoom, "b", lambda hall: hall.move("b", "b"))
        self.refused(SameRoom, "a", lambda hall: hall.move("a", "a", still=44))
        self.refused(SameRoom, "a", lambda hall: hall.move("a", "a", wakes=0, moves=0))

    def test_no_room_goes_first(self):
        self.refused(NoRoom, "c", lambda hall: hall.move("c", "c"))
        self.refused(NoRoom, "c", lambda hall: hall.move("c", "c", wakes=-1))
        self.refused(NoRoom, "c", lambda hall: hall.move("a", "c", wakes=-1))
        self.refused(NoRoom, "c", lambda hall: hall.move("c", "a", moves=-1))
        self.refused(NoRoom, "c", lambda hall: hall.sleep(1, "c", 0))
        self.refused(NoRoom, "c", lambda hall: hall.sleep(1, "c", 0, mask=0))
        self.refused(NoRoom, "c", lambda hall: hall.sleep(2, "c", 0, mask=256))
        self.refused(NoRoom, "c", lambda hall: hall.wake("c", most=-1))
        self.refused(NoRoom, "c", lambda hall: hall.wake("c", mask=0))

    def test_same_room_goes_ahead_of_bad_counts(self):
        self.refused(SameRoom, "a", lambda hall: hall.move("a", "a", wakes=-1))
        self.refused(SameRoom, "a", lambda hall: hall.move("a", "a", moves=-1))

    def test_asleep_goes_ahead_of_bad_counts(self):
        self.refused(Asleep, 1, lambda hall: hall.sleep(1, "a", 0, mask=0))
        self.refused(Asleep, 1, lambda hall: hall.sleep(1, "b", 0, mask=256))

    def test_what_was_refused_may_be_asked_again(self):
        for hall in halls():
            with self.assertRaises(Asleep):
                hall.sleep(1, "b", 5)
            hall.nudge(1)
            self.assertEqual(hall.sleep(1, "b", 5), "asleep")


if __name__ == "__main__":
    unittest.main()
