"""Rows and plans as texts (points 2 and 41)."""

import random
import unittest

import plain_clients
import plain_world
from dozehall.building import Built
from dozehall.clients import Book
from dozehall.errors import NoRow
from dozehall.texts import plan_text, read_plan, read_row, row_text
from dozehall.weaves import drive, run
from dozehall.worlds import World

BIG = int("9" * 60)
TEXTS = {
    "set a -7": ("set", "a", -7),
    "add a 1 -2 3": ("add", "a", 1, -2, 3),
    "cas a 0 1 3": ("cas", "a", 0, 1, 3),
    "swap room 2 0 11": ("swap", "room", 2, 0, 11),
    "take abcdefgh 0": ("take", "abcdefgh", 0),
    "if z 10 100": ("if", "z", 10, 100),
    "load a": ("load", "a"),
    "wait a 2 1 1 -1": ("wait", "a", 2, 1, 1, -1),
    "still c 4 5 6": ("still", "c", 4, 5, 6),
    "wake a 1": ("wake", "a", 1),
    "move a b 1 1000": ("move", "a", "b", 1, 1000),
}
# For each text its parts that are names, by their places among the words.
NAMES = {text: [at for at, part in enumerate(row) if at > 0 and isinstance(part, str)] for text, row in TEXTS.items()}


def with_word(text, at, word):
    words = text.split(" ")
    return " ".join(words[:at] + [word] + words[at + 1:])


class Rows(unittest.TestCase):
    def refused(self, text):
        for again in range(2):
            with self.assertRaises(NoRow) as caught:
                read_row(text)
            self.assertIs(type(caught.exception), NoRow)
            self.assertEqual(caught.exception.what, text)
            self.assertIs(type(caught.exception.what), str)

    def test_each_kind_written_and_read(self):
        self.assertEqual(len(TEXTS), 11)
        for text, row in TEXTS.items():
            self.assertEqual(row_text(row), text)
            self.assertEqual(read_row(text), row)
            self.assertIs(type(read_row(text)), tuple)
            for part, word in zip(read_row(text), row):
                self.assertIs(type(part), type(word))

    def numbers(self):
        """Each text with each place of a number in it."""
        for text, row in TEXTS.items():
            for at in range(1, len(row)):
                if at not in NAMES[text]:
                    yield text, at

    def names(self):
        for text in TEXTS:
            for at in NAMES[text]:
                yield text, at

    def test_numbers_that_are_some(self):
        for text, at in self.numbers():
            for number in (0, 1, -1, 10, -10, 105, BIG, -BIG, 10 ** 59, -10 ** 59):
                told = with_word(text, at, str(number))
                row = read_row(told)
                self.assertEqual(row[at], number)
                self.assertEqual(row_text(row), told)
                self.assertEqual(row[:at] + row[at + 1:], TEXTS[text][:at] + TEXTS[text][at + 1:])

    def test_numbers_that_are_none(self):
        bad = [
            "1" * 61, "-" + "1" * 61, "9" * 61, "0" * 60, "-0", "00", "01", "-01", "007", "0" + "1" * 59, "+1", "+0", "1_0",
            "_1", "1_", "--1", "-", "1-", "1.", "1.0", "1e3", "0x1", "a", "1a", "a1", "", "1,0", "\n1", "1\n", "-\n1", "1\n0",
            "-1\n", "~", "x", "1x", "True", "None", "(1)",
        ]
        for text, at in self.numbers():
            for word in bad:
                self.refused(with_word(text, at, word))

    def test_signs_that_are_figures_elsewhere(self):
        # Of such texts nothing is promised but that they are no rows.
        for word in ("\u0661", "\u00b2", "\uff11"):
            self.refused(f"wake a {word}")

    def test_names_that_are_some(self):
        for text, at in self.names():
            for name in ("a", "z", "q", "set", "abcdefgh", "zzzzzzzz", "load"):
                told = with_word(text, at, name)
                self.assertEqual(read_row(told)[at], name)
                self.assertEqual(row_text(read_row(told)), told)
        self.assertEqual(read_row("move a a 1 1"), ("move", "a", "a", 1, 1))

    def test_names_that_are_none(self):
        for text, at in self.names():
            for name in ("abcdefghi", "A", "aB", "Ab", "a1", "1", "-1", "", "a_b", "_", "a-b", "a.", "{", "`", "a\n", "\na",
                         "a\nb", "@", "~"):
                self.refused(with_word(text, at, name))

    def test_blanks(self):
        for text in TEXTS:
            self.refused(" " + text)
            self.refused(text + " ")
            self.refused("\n" + text)
            self.refused(text + "\n")
            words = text.split(" ")
            for at in range(1, len(words)):
                self.refused(" ".join(words[:at]) + "  " + " ".join(words[at:]))
                self.refused(" ".join(words[:at]) + "\n" + " ".join(words[at:]))
                self.refused(" ".join(words[:at]) + " ".join(words[at:]))
            self.refused(text.replace(" ", "\t"))

    def test_a_word_too_few_or_too_many(self):
        for text in TEXTS:
            words = text.split(" ")
            for at in range(len(words)):
                self.refused(" ".join(words[:at] + words[at + 1:]))
            self.refused(text + " 1")
            self.refused(text + " a")
            self.refused(words[0])

    def test_another_word(self):
        for word in ("put", "sleep", "Set", "SET", "sets", "se", "lock", "q", "", "0", "wakes", "nudge"):
            for text in TEXTS:
                self.refused(with_word(text, 0, word))
        for text in ("", " ", "\n", "  ", "a", "0", "-1", "~", "set a 1\nset a 1", "set a 1\n"):
            self.refused(text)

    def test_a_word_with_the_parts_of_another(self):
        for text, row in TEXTS.items():
            for other, told in TEXTS.items():
                kinds = [[type(part) for part in one] for one in (row, told)]
                swapped = with_word(other, 0, row[0])
                if kinds[0] == kinds[1]:
                    self.assertEqual(read_row(swapped), (row[0], *told[1:]))
                else:
                    self.refused(swapped)

    def test_places_and_counts_may_be_any_numbers(self):
        for text in (f"wake a {-BIG}", f"take a {BIG}", "wait a 0 -5 -6 -7", "move a b -1 -2", "if a 0 -1"):
            self.assertEqual(row_text(read_row(text)), text)

    def test_numbers_that_came_to_more_figures_are_written(self):
        self.assertEqual(row_text(("set", "a", 10 ** 70)), "set a 1" + "0" * 70)
        self.refused(row_text(("set", "a", 10 ** 60)))


class Plans(unittest.TestCase):
    def refused(self, text, place):
        for again in range(2):
            with self.assertRaises(NoRow) as caught:
                read_plan(text)
            self.assertIs(type(caught.exception), NoRow)
            self.assertEqual(caught.exception.what, place)
            self.assertIs(type(caught.exception.what), int)

    def test_no_rows(self):
        self.assertEqual(plan_text([]), "")
        self.assertEqual(read_plan(""), [])

    def test_one_row(self):
        for text, row in TEXTS.items():
            self.assertEqual(plan_text([row]), text)
            self.assertEqual(read_plan(text), [row])

    def test_several_rows(self):
        text = "\n".join(TEXTS)
        plan = list(TEXTS.values())
        self.assertEqual(plan_text(plan), text)
        self.assertEqual(read_plan(text), plan)
        self.assertIs(type(read_plan(text)), list)
        self.assertEqual(read_plan("load a\nload a\nload b"), [("load", "a"), ("load", "a"), ("load", "b")])

    def test_empty_lines(self):
        self.refused("\n", 0)
        self.refused("\n\n", 0)
        self.refused("\nload a", 0)
        self.refused("load a\n", 1)
        self.refused("load a\n\nload a", 1)
        self.refused("load a\nload a\n", 2)
        self.refused("load a\nload a\n\n", 2)
        self.refused(" ", 0)

    def test_the_first_line_that_is_no_row(self):
        good = list(TEXTS)
        for place in range(len(good) + 1):
            lines = good[:place] + ["load A"] + good[place:]
            self.refused("\n".join(lines), place)
            self.refused("\n".join(lines + ["", "zzz"]), place)
        self.refused("zzz", 0)
        self.refused("load a load a", 0)
        self.refused("load a\nload a load a\nload", 1)
        self.refused("load a\nset a " + "1" * 61, 1)
        self.refused("load a\r\nload a", 0)
        self.refused("load a\n load a", 1)

    def test_handed_in_plans_stay_and_told_ones_are_the_askers_own(self):
        plan = [("load", "a"), ("set", "b", BIG)]
        text = plan_text(plan)
        self.assertEqual(plan, [("load", "a"), ("set", "b", BIG)])
        read_plan(text).clear()
        self.assertEqual(read_plan(text), plan)
        self.assertEqual(plan_text(tuple(plan)), text)

    def test_drawn_plans_are_woven_to_the_same_states(self):
        chance = random.Random(41)
        for number in range(150):
            rooms, plans, more = plain_world.some_world(chance, chance.randrange(1, 5), 6)
            self.hold(chance, rooms, plans, more)

    def test_drawn_clients_are_woven_to_the_same_states(self):
        chance = random.Random(411)
        for number in range(80):
            parts, clients, more = plain_clients.some_built(chance, chance.randrange(1, 5), 6)
            world = Built(Book(**parts), clients, **more).world
            plain = plain_clients.world_of(parts, clients, **more)
            again = self.hold(chance, plain["rooms"], plain["plans"], {**more, "marks": plain["marks"]})
            picks = plain_clients.some_picks(chance, 60)
            self.assertEqual(run(again, drive(again, picks)), run(world, drive(world, picks)))

    def hold(self, chance, rooms, plans, more):
        told = [read_plan(plan_text(plan)) for plan in plans]
        self.assertEqual(told, plans)
        one, two = World(rooms, plans, **more), World(rooms, told, **more)
        picks = plain_clients.some_picks(chance, 50)
        self.assertEqual(run(one, drive(one, picks)), run(two, drive(two, picks)))
        return two


if __name__ == "__main__":
    unittest.main()
