"""The refusals of dozehall.errors."""

import copy
import unittest

from dozehall.errors import (
    Asleep, Awake, BadClient, BadCount, BadPlan, DozeError, NoBack, NoKey, NoMove, NoName, NoRoom, NoRow,
    NotHolder, Ring, SameRoom, Stopped, TooMany, TwoNames,
)

SEVENTEEN = (
    NoRoom, Asleep, Awake, BadCount, SameRoom, TwoNames, NoKey, NotHolder, Ring, BadPlan, NoMove, TooMany,
    NoName, BadClient, NoRow, Stopped, NoBack,
)
EIGHTEEN = (DozeError,) + SEVENTEEN


def things():
    """One of each kind of thing that a refusal may be made of, new at each call."""
    return [
        "hall", "", "cas a 0 1", "no row\nat all",
        0, 1, -1, -999999, int("9" * 60), -int("9" * 60), 10 ** 59,
        None,
        (), (0, 3), ("step", 2), ((1, 2), (3,)), ([1], {"a": 1}),
        [], [4, 5, 4], [[1], (2,)],
        {}, {"a": 1, "b": [2]},
    ]


def caught_by(refusal, kind):
    """Whether a handler for that class catches the refusal when it is raised."""
    try:
        try:
            raise refusal
        except kind as error:
            return error is refusal
    except Exception:
        return False


class Making(unittest.TestCase):
    def test_keeps_the_very_thing(self):
        for kind in EIGHTEEN:
            for thing in things():
                with self.subTest(kind=kind.__name__, thing=thing):
                    self.assertIs(kind(thing).what, thing)

    def test_the_thing_is_not_changed(self):
        for kind in EIGHTEEN:
            for thing in things():
                with self.subTest(kind=kind.__name__, thing=thing):
                    before = copy.deepcopy(thing)
                    kind(thing)
                    self.assertEqual(thing, before)
                    self.assertIs(type(thing), type(before))

    def test_a_grown_list_is_seen_grown(self):
        for kind in EIGHTEEN:
            with self.subTest(kind=kind.__name__):
                guests = [1]
                refusal = kind(guests)
                guests.append(2)
                self.assertEqual(refusal.what, [1, 2])
                self.assertIs(refusal.what, guests)

    def test_a_grown_dict_is_seen_grown(self):
        for kind in EIGHTEEN:
            with self.subTest(kind=kind.__name__):
                rooms = {"a": 1}
                refusal = kind(rooms)
                rooms["b"] = 2
                self.assertEqual(refusal.what, {"a": 1, "b": 2})

    def test_each_object_has_a_field_of_its_own(self):
        for kind in EIGHTEEN:
            with self.subTest(kind=kind.__name__):
                first, second = kind("a"), kind("b")
                self.assertEqual((first.what, second.what), ("a", "b"))
                self.assertIn("what", vars(first))
                self.assertFalse(hasattr(kind, "what"))

    def test_what_is_kept_through_a_raise(self):
        for kind in EIGHTEEN:
            for thing in things():
                with self.subTest(kind=kind.__name__, thing=thing):
                    with self.assertRaises(kind) as caught:
                        raise kind(thing)
                    self.assertIs(type(caught.exception), kind)
                    self.assertIs(caught.exception.what, thing)


class Standing(unittest.TestCase):
    def test_eighteen_classes_with_their_own_names(self):
        self.assertEqual(len(set(EIGHTEEN)), 18)
        self.assertEqual([kind.__name__ for kind in EIGHTEEN], [
            "DozeError", "NoRoom", "Asleep", "Awake", "BadCount", "SameRoom", "TwoNames", "NoKey", "NotHolder",
            "Ring", "BadPlan", "NoMove", "TooMany", "NoName", "BadClient", "NoRow", "Stopped", "NoBack",
        ])

    def test_doze_error_stands_under_value_error(self):
        self.assertEqual(DozeError.__bases__, (ValueError,))

    def test_each_stands_straight_under_doze_error(self):
        for kind in SEVENTEEN:
            with self.subTest(kind=kind.__name__):
                self.assertEqual(kind.__bases__, (DozeError,))

    def test_caught_by_its_own_class_and_those_above(self):
        for kind in EIGHTEEN:
            for above in (kind, DozeError, ValueError):
                with self.subTest(kind=kind.__name__, above=above.__name__):
                    self.assertTrue(caught_by(kind("a"), above))

    def test_caught_by_none_of_the_others(self):
        for kind in EIGHTEEN:
            for other in SEVENTEEN:
                if other is not kind:
                    with self.subTest(kind=kind.__name__, other=other.__name__):
                        self.assertFalse(caught_by(kind("a"), other))

    def test_a_value_error_of_another_make_is_no_refusal(self):
        for kind in EIGHTEEN:
            with self.subTest(kind=kind.__name__):
                self.assertFalse(caught_by(ValueError("a"), kind))


if __name__ == "__main__":
    unittest.main()
