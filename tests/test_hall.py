"""The deeds of halls: sleeps, wakes, moves, ticks, nudges, ranks (points 4 to 11)."""

import unittest

from dozehall.hall import Hall
from dozehall.keys import KeyHall

BIG = int("9" * 60)


def both(rooms):
    """A plain hall, and one with keys that are of no use in these tests: both must do the same."""
    return [Hall(rooms), KeyHall(rooms, ["key"]), KeyHall(rooms, ())]


class Making(unittest.TestCase):
    def test_at_first(self):
        for hall in both({"b": 3, "a": -2}):
            self.assertEqual(hall.now(), 0)
            self.assertEqual(hall.number("a"), -2)
            self.assertEqual(hall.number("b"), 3)
            self.assertEqual(hall.line("a"), [])
            self.assertEqual(hall.asleep(), [])
            self.assertEqual(len(hall), 0)
            self.assertEqual(str(hall), "at 0: nobody")
            self.assertEqual(hall.log(), [])

    def test_without_rooms(self):
        for hall in both({}):
            self.assertEqual(hall.tick(4), [])
            self.assertIsNone(hall.rank(3, 4))
            self.assertEqual(hall.standing(3), 4)
            self.assertEqual(str(hall), "at 4: nobody")

    def test_of_a_guest_that_no_deed_named(self):
        for hall in both({"a": 0}):
            hall.sleep(1, "a", 0)
            for guest in (0, 2, 999999):
                self.assertEqual(hall.ending(guest), "new")
                self.assertEqual(hall.standing(guest), 0)
                self.assertIsNone(hall.sleeper(guest))


class Lines(unittest.TestCase):
    def test_of_equal_standings_the_lesser_turn(self):
        for hall in both({"a": 0}):
            for guest in (5, 999999, 0, 7):
                self.assertEqual(hall.sleep(guest, "a", 0), "asleep")
            self.assertEqual(hall.line("a"), [5, 999999, 0, 7])
            self.assertEqual(hall.asleep(), [0, 5, 7, 999999])

    def test_greater_standing_first(self):
        for hall in both({"a": 0}):
            for guest, rank in ((1, 2), (2, -BIG), (3, BIG), (4, 2), (5, -1), (6, BIG)):
                self.assertIsNone(hall.rank(guest, rank))
                hall.sleep(guest, "a", 0)
            hall.sleep(7, "a", 0)
            self.assertEqual(hall.line("a"), [3, 6, 1, 4, 7, 5, 2])

    def test_a_rank_given_to_a_sleeper_taken_back_and_given_again(self):
        for hall in both({"a": 0}):
            for guest in (1, 2, 3, 4):
                hall.sleep(guest, "a", 0)
            hall.rank(3, 5)
            self.assertEqual(hall.line("a"), [3, 1, 2, 4])
            hall.rank(3, 0)
            self.assertEqual(hall.line("a"), [1, 2, 3, 4])
            hall.rank(3, -1)
            self.assertEqual(hall.line("a"), [1, 2, 4, 3])
            hall.rank(3, 5)
            hall.rank(2, 5)
            self.assertEqual(hall.line("a"), [2, 3, 1, 4])

    def test_a_rank_stays_through_sleeps(self):
        for hall in both({"a": 0}):
            hall.rank(2, 1)
            hall.sleep(2, "a", 0)
            hall.wake("a")
            hall.sleep(1, "a", 0)
            hall.sleep(2, "a", 0)
            self.assertEqual(hall.line("a"), [2, 1])
            self.assertEqual(hall.standing(2), 1)

    def test_who_sleeps_again_has_a_new_turn(self):
        for hall in both({"a": 0}):
            for guest in (1, 2, 3):
                hall.sleep(guest, "a", 0)
            hall.nudge(1)
            hall.sleep(1, "a", 0)
            self.assertEqual(hall.line("a"), [2, 3, 1])

    def test_moved_ones_behind_those_of_equal_standing(self):
        for hall in both({"a": 0, "b": 0}):
            hall.sleep(1, "a", 0)
            hall.sleep(2, "a", 0)
            hall.sleep(3, "b", 0)
            hall.sleep(4, "b", 0)
            hall.rank(2, 1)
            hall.rank(4, 1)
            self.assertEqual(hall.move("a", "b", wakes=0), ([], [2, 1]))
            self.assertEqual(hall.line("b"), [4, 2, 3, 1])
            hall.rank(2, 0)
            hall.rank(4, 0)
            # Guest 2 was moved ahead of guest 1, so its turn is the lesser one.
            self.assertEqual(hall.line("b"), [3, 4, 2, 1])

    def test_lines_are_apart(self):
        for hall in both({"a": 0, "b": 0}):
            hall.sleep(1, "a", 0)
            hall.sleep(2, "b", 0)
            self.assertEqual(hall.line("a"), [1])
            self.assertEqual(hall.line("b"), [2])
            self.assertEqual(hall.wake("b", most=9), [2])
            self.assertEqual(hall.line("a"), [1])


class Sleeps(unittest.TestCase):
    def test_changed(self):
        for hall in both({"a": 4}):
            for still in (3, 5, -4, 0, BIG):
                self.assertEqual(hall.sleep(1, "a", still), "changed")
                self.assertEqual(hall.ending(1), "changed")
                self.assertIsNone(hall.sleeper(1))
            self.assertEqual(hall.line("a"), [])

    def test_still_is_held_against_what_was_put(self):
        for hall in both({"a": 4}):
            self.assertIsNone(hall.put("a", -BIG))
            self.assertEqual(hall.number("a"), -BIG)
            self.assertEqual(hall.sleep(1, "a", 4), "changed")
            self.assertEqual(hall.sleep(1, "a", -BIG), "asleep")

    def test_a_put_wakes_nobody(self):
        for hall in both({"a": 4}):
            hall.sleep(1, "a", 4)
            hall.put("a", 5)
            self.assertEqual(hall.line("a"), [1])

    def test_past(self):
        for hall in both({"a": 4}):
            hall.tick(7)
            for until in (7, 6, 0, -1, -BIG):
                self.assertEqual(hall.sleep(1, "a", 4, until=until), "past")
                self.assertEqual(hall.ending(1), "past")
                self.assertIsNone(hall.sleeper(1))
            self.assertEqual(hall.sleep(1, "a", 4, until=8), "asleep")
            self.assertEqual(hall.sleeper(1), ("a", 8, 255))

    def test_past_at_time_0(self):
        for hall in both({"a": 4}):
            self.assertEqual(hall.sleep(1, "a", 4, until=0), "past")
            self.assertEqual(hall.sleep(1, "a", 4, until=1), "asleep")

    def test_changed_goes_ahead_of_past(self):
        for hall in both({"a": 4}):
            self.assertEqual(hall.sleep(1, "a", 5, until=-3), "changed")
            self.assertEqual(hall.ending(1), "changed")

    def test_until_and_mask_are_kept_through_moves(self):
        for hall in both({"a": 4, "b": 5, "c": 6}):
            hall.sleep(1, "a", 4, until=9, mask=6)
            hall.sleep(2, "a", 4)
            hall.move("a", "b", wakes=0)
            self.assertEqual(hall.sleeper(1), ("b", 9, 6))
            self.assertEqual(hall.sleeper(2), ("b", None, 255))
            hall.move("b", "c", wakes=0)
            self.assertEqual(hall.sleeper(1), ("c", 9, 6))
            self.assertEqual(hall.ending(1), "asleep")
            self.assertEqual(hall.wake("c", mask=9), [2])
            self.assertEqual(hall.wake("c", mask=9), [])
            self.assertEqual(hall.tick(8), [])
            self.assertEqual(hall.tick(1), [1])

    def test_until_and_mask_do_not_outlast_the_sleep(self):
        for hall in both({"a": 4}):
            hall.sleep(1, "a", 4, until=9, mask=6)
            hall.nudge(1)
            hall.sleep(1, "a", 4)
            self.assertEqual(hall.sleeper(1), ("a", None, 255))
            self.assertEqual(hall.tick(20), [])


class Wakes(unittest.TestCase):
    def halls(self):
        halls = both({"a": 0, "b": 0})
        for hall in halls:
            for guest in (4, 2, 9):
                hall.sleep(guest, "a", 0)
        return halls

    def test_left_out_it_is_one(self):
        for hall in self.halls():
            self.assertEqual(hall.wake("a"), [4])
            self.assertEqual(hall.line("a"), [2, 9])
            self.assertEqual(hall.wake("a"), [2])
            self.assertEqual(hall.wake("a"), [9])
            self.assertEqual(hall.wake("a"), [])

    def test_of_some_none_and_more_than_there_are(self):
        for hall in self.halls():
            self.assertEqual(hall.wake("a", most=0), [])
            self.assertEqual(hall.line("a"), [4, 2, 9])
            self.assertEqual(hall.wake("a", most=2), [4, 2])
            self.assertEqual(hall.wake("a", most=BIG), [9])
        for hall in self.halls():
            self.assertEqual(hall.wake("a", most=3), [4, 2, 9])
        for hall in self.halls():
            self.assertEqual(hall.wake("a", most=4), [4, 2, 9])

    def test_nobody_is_found(self):
        for hall in self.halls():
            self.assertEqual(hall.wake("b", most=5), [])
            self.assertEqual(hall.sleep(1, "b", 0), "asleep")
            self.assertEqual(hall.line("b"), [1])

    def test_in_the_order_of_the_line(self):
        for hall in self.halls():
            hall.rank(9, 3)
            hall.rank(4, -3)
            self.assertEqual(hall.wake("a", most=3), [9, 2, 4])

    def test_masks(self):
        for hall in both({"a": 0}):
            for guest, mask in ((1, 1), (2, 2), (3, 3), (4, 128), (5, 255)):
                hall.sleep(guest, "a", 0, mask=mask)
            self.assertEqual(hall.wake("a", mask=64, most=0), [])
            self.assertEqual(hall.wake("a", mask=128), [4])
            self.assertEqual(hall.wake("a", mask=64, most=9), [5])
            self.assertEqual(hall.wake("a", mask=252, most=9), [])
            self.assertEqual(hall.line("a"), [1, 2, 3])
            self.assertEqual(hall.wake("a", mask=2, most=2), [2, 3])
            self.assertEqual(hall.wake("a", mask=255), [1])

    def test_most_counts_only_those_whose_masks_meet(self):
        for hall in both({"a": 0}):
            for guest, mask in ((1, 1), (2, 2), (3, 1), (4, 2), (5, 1)):
                hall.sleep(guest, "a", 0, mask=mask)
            self.assertEqual(hall.wake("a", mask=2, most=2), [2, 4])
            self.assertEqual(hall.line("a"), [1, 3, 5])


class Moves(unittest.TestCase):
    def halls(self):
        halls = both({"a": 7, "b": 8})
        for hall in halls:
            for guest in (4, 2, 9, 6):
                hall.sleep(guest, "a", 7, mask=1)
        return halls

    def test_left_out_one_is_woken_and_the_rest_moved(self):
        for hall in self.halls():
            self.assertEqual(hall.move("a", "b"), ([4], [2, 9, 6]))
            self.assertEqual(hall.line("a"), [])
            self.assertEqual(hall.line("b"), [2, 9, 6])
            self.assertEqual([hall.ending(guest) for guest in (4, 2, 9)], ["woken", "asleep", "asleep"])

    def test_told_is_a_tuple_of_two_lists(self):
        for hall in self.halls():
            told = hall.move("a", "b")
            self.assertIs(type(told), tuple)
            self.assertEqual([type(part) for part in told], [list, list])

    def test_of_some_none_and_more_than_there_are(self):
        for wakes, moves, told, left in (
            (0, 0, ([], []), [4, 2, 9, 6]),
            (0, 1, ([], [4]), [2, 9, 6]),
            (2, 0, ([4, 2], []), [9, 6]),
            (2, 1, ([4, 2], [9]), [6]),
            (2, 2, ([4, 2], [9, 6]), []),
            (4, 1, ([4, 2, 9, 6], []), []),
            (5, 5, ([4, 2, 9, 6], []), []),
            (BIG, BIG, ([4, 2, 9, 6], []), []),
            (1, BIG, ([4], [2, 9, 6]), []),
        ):
            for hall in self.halls():
                self.assertEqual(hall.move("a", "b", wakes=wakes, moves=moves), told)
                self.assertEqual(hall.line("a"), left)
                self.assertEqual(hall.line("b"), told[1])

    def test_still(self):
        for hall in self.halls():
            for still in (8, 6, 0, -7, BIG):
                self.assertIsNone(hall.move("a", "b", still=still))
                self.assertEqual(hall.line("a"), [4, 2, 9, 6])
                self.assertEqual(hall.line("b"), [])
            self.assertEqual(hall.move("a", "b", still=7), ([4], [2, 9, 6]))

    def test_a_still_of_0_is_a_number(self):
        for hall in both({"a": 0, "b": 0}):
            hall.sleep(1, "a", 0)
            hall.put("a", 1)
            self.assertIsNone(hall.move("a", "b", still=0))
            hall.put("a", 0)
            self.assertEqual(hall.move("a", "b", still=0), ([1], []))

    def test_the_other_rooms_number_is_not_looked_at(self):
        for hall in self.halls():
            hall.put("b", -1)
            self.assertEqual(hall.move("a", "b", still=7, wakes=0, moves=1), ([], [4]))

    def test_of_nobody(self):
        for hall in self.halls():
            self.assertEqual(hall.move("b", "a"), ([], []))

    def test_in_the_order_of_the_line(self):
        for hall in self.halls():
            hall.rank(6, 1)
            hall.rank(2, -1)
            self.assertEqual(hall.move("a", "b", wakes=2), ([6, 4], [9, 2]))
            self.assertEqual(hall.line("b"), [9, 2])

    def test_there_and_back(self):
        for hall in self.halls():
            hall.move("a", "b", wakes=0, moves=2)
            hall.move("b", "a", wakes=0, moves=1)
            self.assertEqual(hall.line("a"), [9, 6, 4])
            self.assertEqual(hall.line("b"), [2])


class Ticks(unittest.TestCase):
    def test_time(self):
        for hall in both({"a": 0}):
            self.assertEqual(hall.tick(), [])
            self.assertEqual(hall.now(), 1)
            self.assertEqual(hall.tick(0), [])
            self.assertEqual(hall.now(), 1)
            self.assertEqual(hall.tick(BIG), [])
            self.assertEqual(hall.now(), BIG + 1)
            # Numbers that are come to may have more figures than those handed in.
            hall.tick(BIG)
            self.assertEqual(hall.now(), 2 * BIG + 1)
            self.assertEqual(str(hall), f"at {2 * BIG + 1}: nobody")

    def test_the_very_time_is_late(self):
        for hall in both({"a": 0}):
            hall.sleep(1, "a", 0, until=3)
            hall.sleep(2, "a", 0)
            self.assertEqual(hall.tick(2), [])
            self.assertEqual(hall.tick(), [1])
            self.assertEqual(hall.ending(1), "late")
            self.assertEqual(hall.line("a"), [2])
            self.assertEqual(hall.tick(BIG), [])

    def test_wherever_they_lie_by_until(self):
        for hall in both({"a": 0, "b": 0, "c": 0}):
            for guest, room, until in ((1, "a", 9), (2, "b", 3), (3, "c", 5), (4, "a", 3), (5, "b", None), (6, "b", 10)):
                hall.sleep(guest, room, 0, until=until)
            hall.rank(1, 100)
            self.assertEqual(hall.tick(9), [2, 4, 3, 1])
            self.assertEqual(hall.asleep(), [5, 6])

    def test_of_equal_untils_who_fell_asleep_first(self):
        for hall in both({"a": 0, "b": 0}):
            for guest in (8, 3, 5):
                hall.sleep(guest, "a", 0, until=4)
            hall.rank(5, 7)
            # Guests 5 and 8 have later turns now, but fell asleep when they did.
            hall.move("a", "b", wakes=0, moves=2)
            hall.sleep(1, "b", 0, until=4)
            self.assertEqual(hall.line("b"), [5, 8, 1])
            self.assertEqual(hall.tick(6), [8, 3, 5, 1])

    def test_the_last_sleep_counts(self):
        for hall in both({"a": 0}):
            hall.sleep(1, "a", 0, until=4)
            hall.sleep(2, "a", 0, until=4)
            hall.nudge(1)
            hall.sleep(1, "a", 0, until=4)
            self.assertEqual(hall.tick(4), [2, 1])

    def test_late_ones_are_told_by_no_wake_or_move(self):
        for hall in both({"a": 0, "b": 0}):
            hall.sleep(1, "a", 0, until=1)
            hall.tick()
            self.assertEqual(hall.wake("a"), [])
            self.assertEqual(hall.move("a", "b"), ([], []))
            self.assertEqual(hall.tick(), [])
            self.assertEqual(hall.ending(1), "late")


class Endings(unittest.TestCase):
    def test_each(self):
        for hall in both({"a": 0, "b": 0}):
            told = [hall.ending(1)]
            hall.sleep(1, "a", 1)
            told.append(hall.ending(1))
            hall.sleep(1, "a", 0, until=0)
            told.append(hall.ending(1))
            hall.sleep(1, "a", 0)
            told.append(hall.ending(1))
            hall.wake("a")
            told.append(hall.ending(1))
            hall.sleep(1, "a", 0)
            self.assertIsNone(hall.nudge(1))
            told.append(hall.ending(1))
            hall.sleep(1, "a", 0, until=1)
            hall.tick()
            told.append(hall.ending(1))
            hall.sleep(1, "a", 0)
            hall.move("a", "b", wakes=0)
            told.append(hall.ending(1))
            hall.move("b", "a")
            told.append(hall.ending(1))
            self.assertEqual(told, [
                "new", "changed", "past", "asleep", "woken", "nudged", "late", "asleep", "woken",
            ])

    def test_other_deeds_leave_it(self):
        for hall in both({"a": 0}):
            hall.rank(1, 5)
            self.assertEqual(hall.ending(1), "new")
            hall.sleep(1, "a", 0)
            hall.wake("a")
            hall.rank(1, 6)
            hall.put("a", 3)
            hall.tick(5)
            self.assertEqual(hall.ending(1), "woken")

    def test_a_nudged_one_leaves_its_line(self):
        for hall in both({"a": 0, "b": 0}):
            hall.sleep(1, "a", 0)
            hall.sleep(2, "a", 0)
            hall.move("a", "b", wakes=0)
            hall.nudge(1)
            self.assertEqual(hall.line("b"), [2])
            self.assertEqual(hall.asleep(), [2])
            self.assertIsNone(hall.sleeper(1))


class Texts(unittest.TestCase):
    def test_len_and_str(self):
        for hall in both({"a": 0, "b": 0}):
            hall.tick(5)
            self.assertEqual(str(hall), "at 5: nobody")
            hall.sleep(12, "a", 0)
            self.assertEqual(str(hall), "at 5: 12")
            hall.sleep(3, "b", 0)
            self.assertEqual(str(hall), "at 5: 3 12")
            self.assertEqual(len(hall), 2)
            hall.sleep(0, "b", 0)
            hall.sleep(999999, "b", 0)
            self.assertEqual(str(hall), "at 5: 0 3 12 999999")
            self.assertEqual(len(hall), 4)


if __name__ == "__main__":
    unittest.main()
