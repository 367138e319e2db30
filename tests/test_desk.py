"""The desk: its rows, batches, and ways back (points 2 and 42 to 44)."""

import unittest

from dozehall import errors
from dozehall.desk import Desk
from dozehall.errors import DozeError, NoBack, NoRow, Stopped, TwoNames

BIG = "9" * 60
LOOKS = [
    *(f"number {room}" for room in "ab"), *(f"line {room}" for room in "ab"), *(f"waits {key}" for key in "kl"),
    *(f"holder {key}" for key in "kl"), *(f"ending {guest}" for guest in range(8)),
    *(f"standing {guest}" for guest in range(8)),
]


def desk_of(*rows):
    """A desk at which these rows were said."""
    desk = Desk({"a": 0, "b": 5}, keys=["k", "l"])
    for row in rows:
        desk.say(row)
    return desk


def picture(desk):
    """All that can be seen at the desk."""
    return desk.log(), [desk.say(look) for look in LOOKS]


class Case(unittest.TestCase):
    def answers(self, *pairs, desk=None):
        """Rows with the answers that they must have, one behind the other."""
        desk = desk_of() if desk is None else desk
        for row, wanted in pairs:
            told = desk.say(row)
            self.assertEqual((row, told), (row, wanted))
            self.assertIs(type(told), str)
        return desk

    def refused(self, desk, row, error, what):
        before = picture(desk)
        for again in range(2):
            with self.assertRaises(DozeError) as caught:
                desk.say(row)
            self.assertEqual((row, type(caught.exception)), (row, error))
            self.assertEqual(caught.exception.what, what)
            self.assertIs(type(caught.exception.what), type(what))
        self.assertEqual(picture(desk), before)


class Making(Case):
    def test_without_keys(self):
        for desk in (Desk({"a": 1}), Desk({"a": 1}, keys=[]), Desk({"a": 1}, keys=())):
            self.answers(("number a", "1"), ("sleep 1 a 1", "asleep"), desk=desk)
            with self.assertRaises(errors.NoKey):
                desk.say("holder k")

    def test_without_rooms(self):
        for keys in (["k"], ("k",)):
            desk = self.answers(("take 1 k", "held"), ("tick 0", "nobody"), desk=Desk({}, keys=keys))
            with self.assertRaises(errors.NoRoom):
                desk.say("number a")
        self.assertEqual(Desk({}).log(), [])

    def test_two_names(self):
        for rooms, keys, what in (({"a": 0}, ["k", "k"], "k"), ({"a": 0}, ("k", "a"), "a"), ({"a": 0}, ["l", "a", "l"], "a")):
            with self.assertRaises(TwoNames) as caught:
                Desk(rooms, keys=keys)
            self.assertIs(type(caught.exception), TwoNames)
            self.assertEqual(caught.exception.what, what)

    def test_keys_by_their_name(self):
        with self.assertRaises(TypeError):
            Desk({}, ["k"])

    def test_what_is_handed_in_stays(self):
        rooms, keys = {"a": 1}, ["k"]
        desk = Desk(rooms, keys=keys)
        desk.say("put a 7")
        desk.say("take 1 k")
        self.assertEqual((rooms, keys), ({"a": 1}, ["k"]))
        rooms["a"] = 9
        rooms["b"] = 9
        keys.append("l")
        self.answers(("number a", "7"), ("holder k", "1"), desk=desk)
        self.refused_here(desk, "number b", errors.NoRoom)
        self.refused_here(desk, "holder l", errors.NoKey)
        desk.back()
        desk.back()
        self.answers(("number a", "1"), desk=desk)

    def refused_here(self, desk, row, error):
        with self.assertRaises(error):
            desk.say(row)

    def test_each_listed_method_stands_in_its_class(self):
        for name in ("say", "batch", "back", "log"):
            self.assertIn(name, vars(Desk))


class Rows(Case):
    def test_put_and_number(self):
        desk = self.answers(
            ("number a", "0"), ("put a 7", "ok"), ("number a", "7"), ("put a -7", "ok"), ("number a", "-7"), ("number b", "5"),
            (f"put b {BIG}", "ok"), ("number b", BIG), (f"put b -{BIG}", "ok"), ("number b", "-" + BIG), ("put b 0", "ok"),
            ("number b", "0"),
        )
        self.assertEqual(desk.log()[:2], [("put", "a", 7), ("put", "a", -7)])

    def test_sleep(self):
        desk = self.answers(
            ("sleep 1 a 0", "asleep"), ("sleep 2 a 1", "changed"), ("sleep 2 a 0 until 0", "past"),
            ("sleep 2 a 0 until -1", "past"), ("sleep 2 a 0 until 1", "asleep"), ("sleep 3 a 0 mask 2", "asleep"),
            ("sleep 4 b 5 until 2 mask 255", "asleep"), (f"sleep 999999 b {BIG}", "changed"), ("sleep 0 b -5", "changed"),
            ("sleep 0 b 5 until 7 mask 1", "asleep"), ("line a", "1 2 3"), ("line b", "4 0"),
        )
        self.assertEqual(desk.log(), [
            ("sleep", 1, "a", 0, None, 255, "asleep"), ("sleep", 2, "a", 1, None, 255, "changed"),
            ("sleep", 2, "a", 0, 0, 255, "past"), ("sleep", 2, "a", 0, -1, 255, "past"),
            ("sleep", 2, "a", 0, 1, 255, "asleep"), ("sleep", 3, "a", 0, None, 2, "asleep"),
            ("sleep", 4, "b", 5, 2, 255, "asleep"), ("sleep", 999999, "b", int(BIG), None, 255, "changed"),
            ("sleep", 0, "b", -5, None, 255, "changed"), ("sleep", 0, "b", 5, 7, 1, "asleep"),
        ])

    def test_wake(self):
        beds = ["sleep 1 a 0", "sleep 2 a 0 mask 2", "sleep 3 a 0 mask 1", "sleep 0 a 0"]
        for row, wanted in (
            ("wake a", "1"), ("wake a most 2", "1 2"), ("wake a most 0", "nobody"), ("wake a mask 1", "1"),
            ("wake a most 9 mask 1", "1 3 0"), ("wake a most 1 mask 255", "1"), ("wake b", "nobody"),
            ("wake a most 2 mask 2", "1 2"), (f"wake a most {BIG}", "1 2 3 0"), ("wake b most 9 mask 1", "nobody"),
        ):
            self.answers((row, wanted), desk=desk_of(*beds))
        self.answers(("rank 0 1", "ok"), ("wake a", "0"), desk=desk_of(*beds))
        self.assertEqual(desk_of("wake a").log(), [("wake", "a", 1, 255, ())])
        self.assertEqual(desk_of("wake a most 3").log(), [("wake", "a", 3, 255, ())])
        self.assertEqual(desk_of("wake a mask 3").log(), [("wake", "a", 1, 3, ())])
        self.assertEqual(desk_of("wake a most 0 mask 3").log(), [("wake", "a", 0, 3, ())])

    def test_move(self):
        beds = ["sleep 1 a 0", "sleep 2 a 0", "sleep 3 a 0", "sleep 0 a 0"]
        for row, wanted in (
            ("move a b", "1 / 2 3 0"), ("move b a", "nobody / nobody"), ("move a b still 0", "1 / 2 3 0"),
            ("move a b still 1", "changed"), ("move a b still 0 wakes 2", "1 2 / 3 0"), ("move a b wakes 0", "nobody / 1 2 3 0"),
            ("move a b moves 0", "1 / nobody"), ("move a b wakes 0 moves 0", "nobody / nobody"),
            ("move a b still 0 moves 1", "1 / 2"), ("move a b wakes 2 moves 1", "1 2 / 3"),
            ("move a b still 0 wakes 1 moves 2", "1 / 2 3"), ("move a b still -5 wakes 1 moves 2", "changed"),
            (f"move a b wakes {BIG} moves {BIG}", "1 2 3 0 / nobody"), ("move a b wakes 4", "1 2 3 0 / nobody"),
        ):
            self.answers((row, wanted), desk=desk_of(*beds))
        for row, entry in (
            ("move a b", ("move", "a", "b", None, 1, 1000, ((), ()))),
            ("move a b still 0", ("move", "a", "b", 0, 1, 1000, ((), ()))),
            ("move a b still 3", ("move", "a", "b", 3, 1, 1000, None)),
            ("move a b wakes 7", ("move", "a", "b", None, 7, 1000, ((), ()))),
            ("move a b moves 7", ("move", "a", "b", None, 1, 7, ((), ()))),
            ("move b a still 5 wakes 2 moves 3", ("move", "b", "a", 5, 2, 3, ((), ()))),
        ):
            self.assertEqual(desk_of(row).log(), [entry])

    def test_tick(self):
        self.answers(
            ("sleep 2 a 0 until 3", "asleep"), ("sleep 1 a 0 until 3", "asleep"), ("sleep 0 a 0 until 2", "asleep"),
            ("tick 0", "nobody"), ("tick 1", "nobody"), ("tick 2", "0 2 1"), (f"tick {BIG}", "nobody"), ("ending 0", "late"),
        )
        self.answers(("sleep 0 a 0 until 1", "asleep"), ("tick 1", "0"))

    def test_nudge(self):
        self.answers(("sleep 0 a 0", "asleep"), ("nudge 0", "ok"), ("ending 0", "nudged"), ("line a", "nobody"))

    def test_rank_and_standing(self):
        self.answers(
            ("standing 0", "0"), ("rank 0 7", "ok"), ("standing 0", "7"), ("rank 0 -7", "ok"), ("standing 0", "-7"),
            (f"rank 999999 -{BIG}", "ok"), ("standing 999999", "-" + BIG), (f"rank 3 {BIG}", "ok"), ("standing 3", BIG),
        )

    def test_take_give_holder_waits(self):
        desk = self.answers(
            ("holder k", "nobody"), ("waits k", "nobody"), ("take 0 k", "held"), ("holder k", "0"), ("take 1 k until 0", "past"),
            ("take 1 k", "asleep"), ("take 2 k until 5", "asleep"), ("waits k", "1 2"), ("rank 2 3", "ok"), ("waits k", "2 1"),
            ("standing 0", "3"), ("give 0 k", "2"), ("holder k", "2"), ("ending 2", "held"), ("give 2 k", "1"),
            ("give 1 k", "nobody"), ("holder k", "nobody"), ("take 3 l until 0", "held"), ("ending 3", "held"),
            ("take 1 k", "held"), ("take 0 k", "asleep"), ("give 1 k", "0"),
        )
        self.assertEqual(desk.log()[:4], [
            ("take", 0, "k", None, "held"), ("take", 1, "k", 0, "past"), ("take", 1, "k", None, "asleep"),
            ("take", 2, "k", 5, "asleep"),
        ])
        self.assertEqual(desk.log()[5:8], [("give", 0, "k", 2), ("give", 2, "k", 1), ("give", 1, "k", None)])

    def test_ending_and_line(self):
        self.answers(
            ("ending 7", "new"), ("line a", "nobody"), ("sleep 7 a 3", "changed"), ("ending 7", "changed"),
            ("sleep 7 a 0 until 0", "past"), ("ending 7", "past"), ("sleep 7 a 0", "asleep"), ("ending 7", "asleep"),
            ("line a", "7"), ("wake a", "7"), ("ending 7", "woken"), ("line a", "nobody"), ("sleep 0 a 0", "asleep"),
            ("line a", "0"),
        )

    def test_looks_put_nothing_into_the_log(self):
        desk = desk_of("sleep 1 a 0", "take 2 k")
        before = desk.log()
        for look in LOOKS:
            desk.say(look)
        self.assertEqual(desk.log(), before)

    def test_guests(self):
        for guest in ("0", "1", "10", "999999"):
            self.answers((f"ending {guest}", "new"), (f"rank {guest} 1", "ok"), (f"sleep {guest} a 0", "asleep"), ("line a", guest),
                         (f"nudge {guest}", "ok"), (f"take {guest} k", "held"), ("holder k", guest), (f"give {guest} k", "nobody"),
                         (f"standing {guest}", "1"))
        for guest in ("1000000", "-1", "00", "01", "-0", "+1", "a", "", "1_0", "1" * 60, "1" * 61, "-1000000", "9999990", "1.0"):
            for row in ("ending G", "rank G 1", "sleep G a 0", "nudge G", "take G k", "give G k", "standing G", "sleep G a 0 until 1"):
                text = row.replace("G", guest)
                self.refused(desk_of(), text, NoRow, text)

    def test_numbers(self):
        rows = (
            "put a N", "rank 1 N", "sleep 1 a N", "sleep 1 a 0 until N", "sleep 1 a 0 mask N", "sleep 1 a 0 until N mask 1",
            "sleep 1 a 0 until 1 mask N", "take 1 k until N", "wake a most N", "wake a mask N", "wake a most N mask 1",
            "wake a most 1 mask N", "tick N", "move a b still N", "move a b wakes N", "move a b moves N",
            "move a b still N wakes 1 moves 1", "move a b still 1 wakes N moves 1", "move a b still 1 wakes 1 moves N",
        )
        for number in ("-0", "00", "01", "-01", "+1", "1_0", "a", "", "-", "1" * 61, "-" + "1" * 61, "1\n", "1.0", "x", "None"):
            for row in rows:
                text = row.replace("N", number)
                self.refused(desk_of(), text, NoRow, text)
        for row in rows:
            desk_of(row.replace("N", "1"))

    def test_names(self):
        rows = (
            "put X 1", "sleep 1 X 0", "wake X", "move X b", "move a X", "number X", "line X", "take 1 X", "give 1 X", "holder X",
            "waits X",
        )
        for name in ("abcdefghi", "A", "a1", "", "1", "a_b", "a\n", "{", "`"):
            for row in rows:
                text = row.replace("X", name)
                self.refused(desk_of(), text, NoRow, text)
        for name in ("z", "abcdefgh", "until"):
            for row in rows:
                key = row in rows[7:]
                self.refused(desk_of(), row.replace("X", name), errors.NoKey if key else errors.NoRoom, name)

    def test_words(self):
        goods = (
            "put a 1", "nudge 1", "rank 1 1", "sleep 1 a 0", "take 1 k", "wake a", "tick 1", "move a b", "give 1 k", "holder k",
            "number a", "standing 1", "line a", "waits k", "ending 1", "sleep 1 a 0 until 1 mask 1", "take 1 k until 1",
            "wake a most 1 mask 1", "move a b still 1 wakes 1 moves 1",
        )
        for good in goods:
            words = good.split(" ")
            # The word alone, without its parts, is no row.
            bad = [" " + good, good + " ", good + "\n", "\n" + good, good.replace(" ", "  "), good.replace(" ", "\n"), words[0]]
            bad += [good + " 1", good + " a", good + " until", good.upper(), good.capitalize(), "s" + good, good + " 1 1"]
            bad += [" ".join([words[0] + "s"] + words[1:]), " ".join([""] + words[1:]), " ".join(words[1:])]
            bad += [" ".join(words[:at] + words[at + 1:]) for at in range(1, min(len(words), 3)) if words[0] not in ("sleep", "take")]
            for text in bad:
                if text not in goods:
                    self.refused(desk_of(), text, NoRow, text)
        for text in ("", " ", "\n", "log", "asleep", "now", "held 1", "chain 1", "twin", "sleeper 1", "set a 1", "back", "tick", "wake",
                     "sleep 1 a", "sleep 1", "take 1", "take k", "give k", "move a", "rank 1", "put a", "put 1 a", "sleep a 1 0"):
            self.refused(desk_of(), text, NoRow, text)

    def test_parts_in_brackets(self):
        for text in (
            "sleep 1 a 0 mask 1 until 1", "sleep 1 a 0 until 1 until 1", "sleep 1 a 0 mask 1 mask 1", "sleep 1 a 0 until",
            "sleep 1 a 0 mask", "sleep 1 a 0 until mask 1", "sleep 1 a 0 until 1 mask", "sleep 1 a 0 1", "sleep 1 a 0 1 until",
            "sleep 1 a 0 most 1", "sleep 1 a 0 still 1", "sleep 1 a 0 until 1 mask 1 until 1", "sleep 1 a until 1",
            "sleep 1 a until 1 0", "sleep 1 until 1 a 0", "sleep until 1 1 a 0", "sleep 1 a 0 until 1 1", "sleep 1 a 0  until 1",
            "take 1 k mask 1", "take 1 k until", "take 1 k until 1 until 1", "take 1 k 1", "take 1 until 1 k",
            "wake a mask 1 most 1", "wake a most", "wake a mask", "wake a most 1 most 1", "wake a most mask", "wake a 1",
            "wake a until 1", "wake a most 1 mask 1 most 1", "wake most 1 a", "wake a wakes 1",
            "move a b wakes 1 still 1", "move a b moves 1 wakes 1", "move a b moves 1 still 1", "move a b still", "move a b wakes",
            "move a b moves", "move a b still 1 still 1", "move a b wakes 1 wakes 1", "move a b still 1 moves 1 wakes 1",
            "move a b most 1", "move a still 1 b", "move a b 1", "move a b still wakes 1", "move a b still 1 wakes moves 1",
            "tick until 1", "put a 1 until 1", "give 1 k until 1", "number a still 1", "nudge 1 mask 1", "rank 1 1 most 1",
        ):
            self.refused(desk_of(), text, NoRow, text)

    def test_refusals_of_the_hall_are_handed_on(self):
        beds = desk_of("sleep 1 a 0", "take 2 k", "take 3 k", "take 4 l", "take 2 l")
        for row, error, what in (
            ("put z 1", errors.NoRoom, "z"), ("put k 1", errors.NoRoom, "k"), ("number k", errors.NoRoom, "k"),
            ("line z", errors.NoRoom, "z"), ("wake z most -1", errors.NoRoom, "z"), ("move z y", errors.NoRoom, "z"),
            ("move a y", errors.NoRoom, "y"), ("sleep 1 z 0", errors.NoRoom, "z"), ("sleep 1 a 0", errors.Asleep, 1),
            ("sleep 1 a 9 mask 0", errors.Asleep, 1), ("sleep 5 a 9 mask 0", errors.BadCount, 0),
            ("sleep 5 a 9 mask 256", errors.BadCount, 256), ("wake a most -1", errors.BadCount, -1),
            ("wake a mask 0", errors.BadCount, 0), ("wake a most -2 mask 0", errors.BadCount, -2),
            ("wake a most 0 mask 256", errors.BadCount, 256), ("move a b wakes -1", errors.BadCount, -1),
            ("move a b moves -2", errors.BadCount, -2), ("move a b still 9 wakes -1 moves -2", errors.BadCount, -1),
            ("move a a", errors.SameRoom, "a"), ("move a a wakes -1", errors.SameRoom, "a"), ("tick -1", errors.BadCount, -1),
            (f"tick -{BIG}", errors.BadCount, -int(BIG)), ("nudge 5", errors.Awake, 5), ("take 5 a", errors.NoKey, "a"),
            ("give 5 z", errors.NoKey, "z"), ("holder a", errors.NoKey, "a"), ("waits z", errors.NoKey, "z"),
            ("take 1 k", errors.Asleep, 1), ("take 3 l", errors.Asleep, 3), ("give 2 k", errors.Asleep, 2),
            ("give 5 k", errors.NotHolder, 5), ("give 0 k", errors.NotHolder, 0), ("take 4 k", errors.Ring, [2, 4]),
            ("take 4 l until 0", errors.Ring, [4]),
        ):
            self.refused(beds, row, error, what)

    def test_the_log_is_the_askers_own(self):
        desk = desk_of("put a 1")
        desk.log().clear()
        self.assertEqual(desk.log(), [("put", "a", 1)])


class Batches(Case):
    def stopped(self, desk, rows, place):
        before, told = picture(desk), list(rows)
        for again in range(2):
            with self.assertRaises(Stopped) as caught:
                desk.batch(rows)
            self.assertIs(type(caught.exception), Stopped)
            self.assertEqual(caught.exception.what, place)
            self.assertIs(type(caught.exception.what), int)
            # The row's own refusal is not told.
            self.assertIsNone(caught.exception.__cause__)
            self.assertIsNone(caught.exception.__context__)
        self.assertEqual(rows, told)
        self.assertEqual(picture(desk), before)

    def test_no_rows(self):
        desk = desk_of("put a 1")
        self.assertEqual(desk.batch([]), [])
        self.assertEqual(desk.log(), [("put", "a", 1)])

    def test_looks_alone(self):
        desk = desk_of("put a 1")
        self.assertEqual(desk.batch(["number a", "line a", "ending 0"]), ["1", "nobody", "new"])
        self.assertEqual(desk.log(), [("put", "a", 1)])

    def test_deeds(self):
        desk = desk_of()
        rows = ["sleep 1 a 0", "sleep 2 a 1", "put a 3", "number a", "sleep 2 a 3 until 1", "line a", "tick 1", "wake a"]
        before = list(rows)
        told = desk.batch(rows)
        self.assertEqual(told, ["asleep", "changed", "ok", "3", "asleep", "1 2", "2", "1"])
        self.assertIs(type(told), list)
        self.assertEqual(rows, before)
        self.assertEqual(len(desk.log()), 6)
        told.clear()
        rows.clear()
        self.assertEqual(len(desk.log()), 6)
        self.answers(("ending 1", "woken"), desk=desk)

    def test_the_same_as_row_by_row(self):
        rows = ["sleep 1 a 0", "take 2 k", "take 4 k", "sleep 3 a 0", "move a b", "give 2 k", "rank 3 1", "line b"]
        one, two = desk_of(), desk_of()
        self.assertEqual(one.batch(rows), [two.say(row) for row in rows])
        self.assertEqual(picture(one), picture(two))

    def test_refused_at_each_place(self):
        good = [
            "put a 3", "sleep 1 a 3 until 5", "rank 1 4", "take 2 k", "take 3 k", "sleep 4 a 3", "move a b", "tick 9", "give 2 k",
            "nudge 4", "wake b",
        ]
        desk_of().batch(good)
        for bad in ("zzz", "", "put z 1", "nudge 7", "wake a most -1", "move a a", "take 0 z", "give 0 k", "tick -1", "holder q",
                    "sleep 1 a 0 mask 0"):
            for place in range(len(good) + 1):
                desk = desk_of("sleep 6 a 0", "take 7 l", "tick 2")
                self.stopped(desk, good[:place] + [bad] + good[place:], place)
                self.stopped(desk, good[:place] + [bad, "zzz", bad], place)

    def test_of_several_the_first(self):
        self.stopped(desk_of(), ["put a 1", "put z 1", "zzz", "put y 1"], 1)
        self.stopped(desk_of(), ["zzz", "put z 1"], 0)

    def test_rows_behind_it_are_not_looked_at(self):
        desk = desk_of()
        self.stopped(desk, ["sleep 1 a 0", "sleep 1 a 0", "put a 9"], 1)
        self.answers(("number a", "0"), desk=desk)

    def test_behind_it_all_is_as_if_it_had_never_been_told(self):
        ahead = ["sleep 1 a 0 until 5", "take 2 k", "take 3 k", "rank 3 2", "sleep 5 a 0"]
        lost = [
            "tick 3", "rank 5 9", "rank 3 -9", "sleep 6 a 0", "nudge 1", "sleep 1 a 0", "put b 1", "take 7 l", "nudge 3",
            "give 2 k", "take 2 l", "move a b", "zzz",
        ]
        behind = [
            "line a", "tick 4", "line a", "sleep 4 a 0", "line a", "tick 1", "sleep 6 a 0", "waits k", "standing 2", "holder l",
            "move a b", "line b", "give 2 k", "holder k", "take 2 l", "number b", "ending 1", "ending 7",
        ]
        one, two = desk_of(*ahead), desk_of(*ahead)
        with self.assertRaises(Stopped) as caught:
            one.batch(lost)
        self.assertEqual(caught.exception.what, len(lost) - 1)
        for row in behind:
            self.assertEqual(one.say(row), two.say(row), row)
            self.assertEqual(picture(one), picture(two))
        for number in range(4):
            one.back()
            two.back()
            self.assertEqual(picture(one), picture(two))


class Back(Case):
    def no_back(self, desk):
        before = picture(desk)
        for again in range(2):
            with self.assertRaises(NoBack) as caught:
                desk.back()
            self.assertIs(type(caught.exception), NoBack)
            self.assertEqual(caught.exception.what, 0)
            self.assertIs(type(caught.exception.what), int)
        self.assertEqual(picture(desk), before)

    def test_at_a_new_desk(self):
        self.no_back(desk_of())
        with self.assertRaises(NoBack):
            Desk({}).back()

    def test_behind_a_row(self):
        for row in ("put a 1", "rank 1 1", "sleep 1 a 0", "sleep 1 a 9", "sleep 1 a 0 until 0", "take 1 k", "wake a", "tick 0", "tick 3",
                    "move a b", "move a b still 9"):
            desk = desk_of("put b 7")
            before = picture(desk)
            desk.say(row)
            self.assertIsNone(desk.back())
            self.assertEqual(picture(desk), before)
            desk.back()
            self.assertEqual(picture(desk), picture(desk_of()))
            self.no_back(desk)

    def test_each_kind_of_deed_is_taken_back_whole(self):
        ahead = ["sleep 1 a 0 until 2", "sleep 2 a 0", "rank 3 5", "take 4 k", "take 5 k"]
        behind = ["line a", "tick 1", "sleep 6 a 0", "line a", "tick 1", "move a b", "line b", "give 4 k", "waits k", "holder k"]
        for row in ("put a 1", "nudge 1", "rank 2 9", "sleep 3 a 0", "take 3 l", "take 3 k", "wake a", "tick 5", "move a b", "give 4 k",
                    "nudge 5", "rank 5 3"):
            one, two = desk_of(*ahead), desk_of(*ahead)
            one.say(row)
            one.back()
            for told in behind:
                self.assertEqual(one.say(told), two.say(told), (row, told))
                self.assertEqual(picture(one), picture(two))

    def test_behind_a_batch(self):
        desk = desk_of("put b 7")
        before = picture(desk)
        desk.batch(["sleep 1 a 0", "put a 1", "line a", "tick 3"])
        desk.back()
        self.assertEqual(picture(desk), before)
        desk.batch(["line a", "put a 1"])
        desk.back()
        self.assertEqual(picture(desk), before)
        desk.back()
        self.no_back(desk)

    def test_what_is_not_taken_back(self):
        desk = desk_of("put a 1", "put a 2")
        one = picture(desk_of("put a 1"))
        for look in LOOKS:
            desk.say(look)
        for bad in ("zzz", "put z 1", "nudge 1", "tick -1"):
            with self.assertRaises(DozeError):
                desk.say(bad)
        with self.assertRaises(Stopped):
            desk.batch(["put a 7", "put a 8", "zzz"])
        desk.batch([])
        desk.batch(["number a", "ending 1"])
        desk.back()
        self.assertEqual(picture(desk), one)
        desk.say("number a")
        desk.batch(["number a"])
        desk.back()
        self.assertEqual(picture(desk), picture(desk_of()))
        self.no_back(desk)
        with self.assertRaises(NoBack):
            desk.back()

    def test_refused_batches_leave_nothing_to_take_back(self):
        desk = desk_of()
        with self.assertRaises(Stopped):
            desk.batch(["put a 7", "zzz"])
        desk.say("number a")
        desk.batch([])
        self.no_back(desk)

    def test_back_new_rows_and_back_again(self):
        desk = desk_of("put a 1", "put a 2", "put a 3")
        desk.back()
        desk.say("put a 4")
        self.assertEqual([entry[2] for entry in desk.log()], [1, 2, 4])
        desk.back()
        self.assertEqual([entry[2] for entry in desk.log()], [1, 2])
        desk.back()
        desk.batch(["put a 5", "put a 6"])
        self.assertEqual([entry[2] for entry in desk.log()], [1, 5, 6])
        desk.back()
        desk.back()
        self.assertEqual(desk.log(), [])
        self.no_back(desk)
        desk.say("put a 9")
        desk.back()
        self.no_back(desk)

    def test_told_logs_stay(self):
        desk = desk_of("put a 1", "put a 2")
        log = desk.log()
        desk.back()
        self.assertEqual(log, [("put", "a", 1), ("put", "a", 2)])

    def test_turns_are_taken_back(self):
        # Behind the way back a guest lies where it would have lain.
        desk = desk_of("sleep 1 a 0", "sleep 2 a 0")
        desk.say("move a b wakes 0")
        desk.say("sleep 3 a 0")
        desk.back()
        desk.back()
        self.answers(("line a", "1 2"), ("sleep 3 a 0", "asleep"), ("line a", "1 2 3"), desk=desk)


if __name__ == "__main__":
    unittest.main()
