"""Logs as papers (points 14 and 15)."""

import copy
import unittest

from dozehall.books import first_fault, sleeps
from dozehall.errors import TwoNames
from dozehall.hall import Hall
from dozehall.keys import KeyHall

BIG = int("9" * 60)
ROOMS = {"a": 0, "b": 4}
KEYS = ["k", "l"]


def history():
    """A hall in which each form of deed was done, and each way that it can go."""
    hall = KeyHall(ROOMS, KEYS)
    hall.rank(1, 2)
    hall.put("a", 3)
    hall.sleep(1, "a", 3)
    hall.sleep(2, "a", 3, until=9, mask=6)
    hall.sleep(3, "a", 2)
    hall.sleep(3, "a", 3, until=0)
    hall.sleep(3, "a", 3, until=9)
    hall.take(4, "k")
    hall.take(5, "k")
    hall.take(6, "k", until=2)
    hall.move("a", "b", still=7)
    hall.move("a", "b", still=3, wakes=1, moves=1)
    hall.wake("b", most=2, mask=2)
    hall.tick(2)
    hall.take(6, "k", until=1)
    hall.give(4, "k")
    hall.sleep(4, "b", 4)
    hall.nudge(4)
    hall.give(5, "k")
    hall.tick(0)
    hall.wake("b")
    hall.tick(7)
    return hall


def other_parts(part):
    """Parts of the same form, none of them the same."""
    if part is None:
        return [0, BIG]
    if isinstance(part, str):
        return ["z", "asleep" if part != "asleep" else "held"]
    if isinstance(part, int):
        return [part + 1, BIG]
    if part and isinstance(part[0], tuple):
        return [None, (part[1], part[0] + (77,)), (part[0], part[1] + (78,))]
    return [part + (79,), (80,) + part]


def faulty_entries(entry):
    """Entries of the form, each with one part that the hall would not have told so."""
    told = []
    for at in range(1, len(entry)):
        if entry[0] == "rank":
            # Every rank is told just as it is handed in.
            continue
        for part in other_parts(entry[at]):
            told.append(entry[:at] + (part,) + entry[at + 1:])
    return told


class Faults(unittest.TestCase):
    def test_none_in_the_log_of_a_history(self):
        log = history().log()
        self.assertIsNone(first_fault(ROOMS, log, keys=KEYS))
        self.assertIsNone(first_fault(ROOMS, log, keys=tuple(KEYS)))
        for many in range(len(log) + 1):
            self.assertIsNone(first_fault(ROOMS, log[:many], keys=KEYS))

    def test_none_in_the_empty_log(self):
        self.assertIsNone(first_fault({}, []))
        self.assertIsNone(first_fault(ROOMS, []))
        self.assertIsNone(first_fault(ROOMS, [], keys=KEYS))

    def test_a_plain_hall(self):
        hall = Hall(ROOMS)
        hall.sleep(1, "b", 4)
        hall.wake("b")
        self.assertIsNone(first_fault(ROOMS, hall.log()))
        self.assertIsNone(first_fault(ROOMS, hall.log(), keys=KEYS))

    def test_another_answer_or_guests(self):
        log = history().log()
        for place, entry in enumerate(log):
            last = entry[-1]
            if entry[0] in ("sleep", "take"):
                others = [text for text in ("changed", "past", "asleep", "held", "zz") if text != last]
            elif entry[0] in ("wake", "tick"):
                others = [last + (8,), last[1:] if last else (0,), tuple([77] * len(last)) if last else (1, 2)]
            elif entry[0] == "move":
                others = [((), ()), ((1,), (2, 3)), ((), (1,)), ((2,), (1,)), ((1, 2), ()), None]
                others = [told for told in others if told != last]
            elif entry[0] == "give":
                others = [guest for guest in (None, 0, 4, 5, 6) if guest != last]
            else:
                continue
            for told in others:
                wrong = log[:place] + [entry[:-1] + (told,)] + log[place + 1:]
                with self.subTest(place=place, told=told):
                    self.assertEqual(first_fault(ROOMS, wrong, keys=KEYS), place)

    def test_a_fault_in_each_form_at_the_first_place(self):
        for entry in (
            ("put", "c", 3),
            ("put", "k", 3),
            ("sleep", 1, "a", 0, None, 255, "changed"),
            ("sleep", 1, "a", 1, None, 255, "asleep"),
            ("sleep", 1, "c", 0, None, 255, "asleep"),
            ("sleep", 1, "a", 0, 0, 255, "asleep"),
            ("sleep", 1, "a", 0, 1, 255, "past"),
            ("sleep", 1, "a", 0, None, 256, "asleep"),
            ("sleep", 1, "a", 0, None, 0, "asleep"),
            ("sleep", 1, "a", 0, None, 255, "held"),
            ("sleep", 1, "a", 0, None, 255, ""),
            ("wake", "c", 1, 255, ()),
            ("wake", "a", -1, 255, ()),
            ("wake", "a", 1, 0, ()),
            ("wake", "a", 1, 255, (1,)),
            ("move", "a", "a", None, 1, 1000, ((), ())),
            ("move", "c", "a", None, 1, 1000, ((), ())),
            ("move", "a", "c", None, 1, 1000, ((), ())),
            ("move", "a", "b", 1, 1, 1000, ((), ())),
            ("move", "a", "b", 0, 1, 1000, None),
            ("move", "a", "b", None, 1, 1000, None),
            ("move", "a", "b", None, -1, 1000, ((), ())),
            ("move", "a", "b", None, 1, -1, ((), ())),
            ("move", "a", "b", None, 1, 1000, ((1,), ())),
            ("move", "a", "b", None, 1, 1000, ((), (1,))),
            ("tick", -1, ()),
            ("tick", 1, (1,)),
            ("nudge", 1),
            ("take", 1, "k", None, "asleep"),
            ("take", 1, "k", 0, "past"),
            ("take", 1, "c", None, "held"),
            ("take", 1, "a", None, "held"),
            ("give", 1, "k", None),
            ("give", 1, "k", 1),
            ("give", 1, "c", None),
        ):
            with self.subTest(entry=entry):
                self.assertEqual(first_fault(ROOMS, [entry], keys=KEYS), 0)
                self.assertEqual(first_fault(ROOMS, [("tick", 0, ()), entry], keys=KEYS), 1)
                self.assertEqual(first_fault(ROOMS, [("tick", 0, ()), entry, ("tick", 0, ())], keys=KEYS), 1)
                self.assertEqual(first_fault(ROOMS, [entry, entry], keys=KEYS), 0)

    def test_each_part_of_each_entry(self):
        # Where only a later entry shows it, the fault is there; where nothing does, the log is another hall's.
        log = history().log()
        seen = 0
        for place, entry in enumerate(log):
            for wrong in faulty_entries(entry):
                told = first_fault(ROOMS, log[:place] + [wrong] + log[place + 1:], keys=KEYS)
                again = self.replayed(log[:place] + [wrong] + log[place + 1:])
                self.assertEqual(told, again)
                seen += told is not None
        self.assertGreater(seen, 100)

    def replayed(self, log):
        """The first fault, found by the deeds of a hall of each beginning of the log."""
        for place in range(len(log)):
            hall = KeyHall(ROOMS, KEYS)
            try:
                for entry in log[:place + 1]:
                    self.deed(hall, entry)
            except ValueError:
                return place
            if hall.log() != log[:place + 1]:
                return place
        return None

    def deed(self, hall, entry):
        word = entry[0]
        if word == "sleep":
            hall.sleep(*entry[1:4], until=entry[4], mask=entry[5])
        elif word == "wake":
            hall.wake(entry[1], most=entry[2], mask=entry[3])
        elif word == "move":
            hall.move(entry[1], entry[2], still=entry[3], wakes=entry[4], moves=entry[5])
        elif word == "take":
            hall.take(entry[1], entry[2], until=entry[3])
        elif word == "give":
            hall.give(entry[1], entry[2])
        elif word == "tick":
            hall.tick(entry[1])
        else:
            getattr(hall, word)(*entry[1:])

    def test_the_same_guests_in_another_order(self):
        hall = Hall(ROOMS)
        for guest in (1, 2, 3):
            hall.sleep(guest, "a", 0, until=5)
        hall.twin()
        woken = hall.twin()
        woken.wake("a", most=3)
        log = woken.log()
        self.assertEqual(first_fault(ROOMS, log[:3] + [("wake", "a", 3, 255, (1, 3, 2))]), 3)
        self.assertIsNone(first_fault(ROOMS, log))
        late = hall.twin()
        late.tick(5)
        self.assertEqual(first_fault(ROOMS, late.log()[:3] + [("tick", 5, (2, 1, 3))]), 3)
        moved = hall.twin()
        moved.move("a", "b")
        wrong = ("move", "a", "b", None, 1, 1000, ((1,), (3, 2)))
        self.assertEqual(first_fault(ROOMS, moved.log()[:3] + [wrong]), 3)

    def test_left_out_told_twice_exchanged(self):
        log = [
            ("sleep", 1, "a", 0, None, 255, "asleep"),
            ("put", "a", 1),
            ("sleep", 2, "a", 0, None, 255, "changed"),
            ("wake", "a", 1, 255, (1,)),
        ]
        self.assertIsNone(first_fault(ROOMS, log))
        self.assertEqual(first_fault(ROOMS, log[1:]), 2)
        self.assertEqual(first_fault(ROOMS, [log[0]] + log[2:]), 1)
        self.assertIsNone(first_fault(ROOMS, log[:2] + log[3:]))
        self.assertEqual(first_fault(ROOMS, log[:1] + log), 1)
        self.assertEqual(first_fault(ROOMS, log + log[3:]), 4)
        self.assertIsNone(first_fault(ROOMS, log[:2] + log[1:]))
        self.assertEqual(first_fault(ROOMS, [log[1], log[0]] + log[2:]), 1)
        self.assertEqual(first_fault(ROOMS, [log[0], log[1], log[3], log[2]]), None)
        self.assertEqual(first_fault(ROOMS, [log[3]] + log[:3]), 0)
        self.assertEqual(first_fault(ROOMS, [log[0], log[2], log[1], log[3]]), 1)

    def test_other_rooms_or_numbers(self):
        log = [("sleep", 1, "a", 0, None, 255, "asleep")]
        self.assertEqual(first_fault({"a": 1}, log), 0)
        self.assertEqual(first_fault({"b": 0}, log), 0)
        self.assertEqual(first_fault({}, log), 0)
        self.assertIsNone(first_fault({"a": 0}, log))

    def test_takes_and_gives_where_there_are_no_keys(self):
        log = [("tick", 1, ()), ("take", 1, "k", None, "held"), ("give", 1, "k", None)]
        self.assertIsNone(first_fault(ROOMS, log, keys=["k"]))
        self.assertEqual(first_fault(ROOMS, log), 1)
        self.assertEqual(first_fault(ROOMS, log, keys=["l"]), 1)
        self.assertEqual(first_fault(ROOMS, [log[0], log[2]]), 1)

    def test_deeds_that_would_be_refused(self):
        taken = [("take", 1, "k", None, "held"), ("take", 2, "k", None, "asleep"), ("take", 2, "l", None, "held")]
        for wrong in (
            ("take", 1, "k", None, "asleep"), ("take", 2, "k", None, "asleep"), ("give", 2, "k", None),
            ("sleep", 2, "a", 0, None, 255, "asleep"), ("give", 3, "k", 2), ("nudge", 1),
        ):
            with self.subTest(wrong=wrong):
                self.assertEqual(first_fault(ROOMS, taken[:2] + [wrong], keys=KEYS), 2)
        self.assertEqual(first_fault(ROOMS, taken, keys=KEYS), 2)

    def test_keys_that_make_a_hall_refused(self):
        for keys, what in ((["k", "k"], "k"), (["l", "a"], "a"), (("b",), "b")):
            for log in ([], [("tick", 1, ())]):
                with self.assertRaises(TwoNames) as caught:
                    first_fault(ROOMS, log, keys=keys)
                self.assertEqual(caught.exception.what, what)

    def test_a_deed_that_no_hall_has(self):
        self.assertEqual(first_fault(ROOMS, [("tick", 1, ()), ("sing", 1)]), 1)
        self.assertEqual(first_fault(ROOMS, [("log", 1)]), 0)

    def test_big_numbers(self):
        log = [
            ("put", "a", -BIG),
            ("sleep", 999999, "a", -BIG, BIG, 255, "asleep"),
            ("sleep", 0, "a", BIG, -BIG, 255, "changed"),
            ("rank", 0, BIG),
            ("tick", BIG, (999999,)),
        ]
        self.assertIsNone(first_fault(ROOMS, log))
        self.assertEqual(first_fault(ROOMS, log[:4] + [("tick", BIG - 1, (999999,))]), 4)

    def test_what_is_handed_in_stays(self):
        rooms, log, keys = dict(ROOMS), history().log(), list(KEYS)
        before = copy.deepcopy((rooms, log, keys))
        first_fault(rooms, log, keys=keys)
        sleeps(log)
        self.assertEqual((rooms, log, keys), before)


class Sleeps(unittest.TestCase):
    def test_none(self):
        self.assertEqual(sleeps([]), [])
        self.assertEqual(sleeps([
            ("tick", 1, ()), ("sleep", 1, "a", 7, None, 255, "changed"), ("sleep", 1, "a", 0, 0, 255, "past"),
            ("take", 1, "k", None, "held"), ("give", 1, "k", None), ("put", "a", 1), ("rank", 1, 2),
            ("wake", "a", 1, 255, ()), ("move", "a", "b", None, 1, 1000, ((), ())),
            ("move", "a", "b", 9, 1, 1000, None),
        ]), [])

    def test_each_end(self):
        self.assertEqual(sleeps(history().log()), [
            (1, 2, (), 11, "woken"),
            (2, 3, ((11, "b"),), 12, "woken"),
            (3, 6, (), 21, "late"),
            (5, 8, (), 15, "held"),
            (6, 9, (), 13, "late"),
            (4, 16, (), 17, "nudged"),
        ])

    def test_still_asleep_at_the_end(self):
        hall = KeyHall(ROOMS, KEYS)
        hall.take(1, "k")
        hall.take(2, "k")
        hall.sleep(3, "a", 0)
        hall.move("a", "b", wakes=0)
        self.assertEqual(sleeps(hall.log()), [
            (2, 1, (), None, "asleep"),
            (3, 2, ((3, "b"),), None, "asleep"),
        ])

    def test_trails(self):
        hall = Hall({"a": 0, "b": 0, "c": 0})
        hall.sleep(1, "a", 0)
        hall.sleep(2, "a", 0)
        hall.move("a", "b", wakes=0)
        hall.move("b", "c", wakes=0, moves=1)
        hall.move("c", "a", wakes=0)
        hall.move("a", "b", still=5)
        hall.move("a", "b", wakes=0)
        hall.move("b", "a", wakes=1)
        self.assertEqual(sleeps(hall.log()), [
            (1, 0, ((2, "b"), (3, "c"), (4, "a"), (6, "b"), (7, "a")), None, "asleep"),
            (2, 1, ((2, "b"),), 7, "woken"),
        ])

    def test_several_sleeps_of_one_guest(self):
        hall = KeyHall({"a": 0, "b": 0}, ["k"])
        hall.sleep(1, "a", 0)
        hall.wake("a")
        hall.sleep(1, "a", 0, until=1)
        hall.move("a", "b", wakes=0)
        hall.tick()
        hall.take(2, "k")
        hall.take(1, "k")
        hall.give(2, "k")
        hall.sleep(1, "b", 0)
        hall.nudge(1)
        hall.sleep(1, "b", 0)
        self.assertEqual(sleeps(hall.log()), [
            (1, 0, (), 1, "woken"),
            (1, 2, ((3, "b"),), 4, "late"),
            (1, 6, (), 7, "held"),
            (1, 8, (), 9, "nudged"),
            (1, 10, (), None, "asleep"),
        ])

    def test_of_guest_0(self):
        hall = KeyHall({"a": 0}, ["k"])
        hall.take(1, "k")
        hall.take(0, "k")
        hall.give(1, "k")
        self.assertEqual(sleeps(hall.log()), [(0, 1, (), 2, "held")])

    def test_several_by_one_entry(self):
        hall = Hall({"a": 0, "b": 0})
        for guest in (3, 1, 2):
            hall.sleep(guest, "a", 0)
        hall.wake("a", most=2)
        self.assertEqual(sleeps(hall.log()), [
            (3, 0, (), 3, "woken"), (1, 1, (), 3, "woken"), (2, 2, (), None, "asleep"),
        ])

    def test_told_is_the_askers_own(self):
        log = history().log()
        told = sleeps(log)
        before = list(told)
        told.clear()
        self.assertEqual(sleeps(log), before)
        self.assertTrue(all(type(one) is tuple and type(one[2]) is tuple for one in before))


if __name__ == "__main__":
    unittest.main()
