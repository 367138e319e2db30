"""Books, and the rule that clients keep (points 2, 31 and 32)."""

import copy
import unittest

from dozehall.building import Built, plan_of
from dozehall.clients import Book
from dozehall.errors import BadClient, NoName, TwoNames

BIG = int("9" * 60)
LOCKS = ["n", "m"]
CONDS = [("c", "m"), ("e", "n")]
COUNTS = [("s", 0), ("t", BIG)]
CELLS = [("d", 0), ("x", -BIG)]
ORDER = ("locks", "conds", "counts", "cells")

# A row of each kind, with the locks that must be held for it.
KINDS = {
    "lock": (("lock", "m"), ()),
    "free": (("free", "m"), ("m",)),
    "rest": (("rest", "c"), ("m",)),
    "await": (("await", "c", "d", 0), ("m",)),
    "try": (("try", "c", "d", 0), ("m",)),
    "call": (("call", "c"), ("m",)),
    "all": (("all", "c"), ("m",)),
    "down": (("down", "s"), ()),
    "up": (("up", "s"), ()),
    "set": (("set", "d", 1), ()),
    "add": (("add", "d", 1), ()),
}
# What each name in such a row must be.
NAMED = {
    "lock": ("lock",), "free": ("lock",), "rest": ("cond",), "await": ("cond", "cell"), "try": ("cond", "cell"),
    "call": ("cond",), "all": ("cond",), "down": ("count",), "up": ("count",), "set": ("cell",), "add": ("cell",),
}
OF_KIND = {"lock": ("m", "n"), "cond": ("c", "e"), "count": ("s", "t"), "cell": ("d", "x")}
AT_CONDS = ("rest", "await", "try", "call", "all")


def book():
    return Book(locks=LOCKS, conds=CONDS, counts=COUNTS, cells=CELLS)


def part(kind, names):
    """A part of a book with these names."""
    return {"locks": list(names)} if kind == "locks" else {kind: [(name, "m" if kind == "conds" else 7) for name in names]}


class Books(unittest.TestCase):
    def refused(self, error, what, **parts):
        for kind in (list, tuple):
            told = {name: kind(names) for name, names in parts.items()}
            before = copy.deepcopy(told)
            for again in range(2):
                with self.assertRaises(error) as caught:
                    Book(**told)
                self.assertIs(type(caught.exception), error)
                self.assertEqual(caught.exception.what, what)
            self.assertEqual(told, before)

    def test_lock_of_each_condition(self):
        one = Book(locks=["n", "m", "o"], conds=[("c", "m"), ("a", "n"), ("e", "m")])
        self.assertEqual([one.lock_of(cond) for cond in ("c", "a", "e")], ["m", "n", "m"])

    def test_lists_and_tuples_alike(self):
        one = Book(locks=("n", "m"), conds=(("c", "m"), ("e", "n")), counts=(("s", 0),), cells=(("d", BIG),))
        two = Book(locks=["n", "m"], conds=[("c", "m"), ("e", "n")], counts=[("s", 0)], cells=[("d", BIG)])
        client = [("lock", "m"), ("await", "c", "d", 0), ("free", "m"), ("down", "s")]
        self.assertEqual([one.lock_of(cond) for cond in ("c", "e")], [two.lock_of(cond) for cond in ("c", "e")])
        self.assertEqual(plan_of(one, client), plan_of(two, client))
        self.assertEqual(Built(one, [client]).world.start(), Built(two, [client]).world.start())

    def test_without_names(self):
        for one in (Book(), Book(locks=[], conds=[], counts=[], cells=[]), Book(locks=(), conds=(), counts=(), cells=())):
            self.assertEqual(plan_of(one, []), ([], [()]))
            self.assertEqual(Built(one, []).world.start(), ((), (), (), ()))
            self.assertEqual(Built(one, [[], []]).world.start(), ((), (0, 0), (0, 0), ()))

    def test_each_part_left_out(self):
        whole = {"locks": LOCKS, "conds": CONDS, "counts": COUNTS, "cells": CELLS}
        for gone in ORDER:
            told = {name: names for name, names in whole.items() if name != gone}
            if gone == "locks":
                self.refused(NoName, "m", **told)
                del told["conds"]
            names = sorted(name if kind == "locks" else name[0] for kind in told for name in told[kind])
            self.assertEqual(len(Built(Book(**told), []).world.start()[0]), len(names))
            for kind, client, rows in (("counts", [("up", "s")], 2), ("cells", [("set", "d", 1)], 1)):
                if kind in told:
                    self.assertEqual(len(plan_of(Book(**told), client)[0]), rows)
                else:
                    with self.assertRaises(BadClient):
                        plan_of(Book(**told), client)

    def test_by_names_alone(self):
        with self.assertRaises(TypeError):
            Book(["m"])

    def test_a_name_twice_in_one_part(self):
        self.refused(TwoNames, "m", locks=["m", "m"])
        self.refused(TwoNames, "c", locks=["m", "n"], conds=[("c", "m"), ("c", "n")])
        self.refused(TwoNames, "c", locks=["m"], conds=[("c", "m"), ("c", "m")])
        self.refused(TwoNames, "s", counts=[("s", 0), ("s", 1)])
        self.refused(TwoNames, "s", counts=[("s", 1), ("t", 1), ("s", 1)])
        self.refused(TwoNames, "d", cells=[("d", 0), ("d", BIG)])

    def test_a_name_in_two_parts(self):
        for at, one in enumerate(ORDER):
            for two in ORDER[at + 1:]:
                parts = {"locks": ["m"]} if "conds" in (one, two) else {}
                for kind in (one, two):
                    parts.setdefault(kind, [])
                    parts[kind] = parts[kind] + part(kind, ["q"])[kind]
                with self.subTest(one=one, two=two):
                    self.refused(TwoNames, "q", **parts)

    def test_the_first_that_was_read_ahead_already(self):
        self.refused(TwoNames, "b", locks=["a", "b", "b", "a"])
        self.refused(TwoNames, "a", locks=["a", "b", "a", "b"])
        # Read in the order locks, conditions, counts, cells, whatever the order in which they are handed in.
        self.refused(TwoNames, "b", cells=[("a", 0), ("a", 0)], counts=[("c", 0), ("c", 0)], locks=["a", "b", "c", "b"])
        self.refused(TwoNames, "c", cells=[("d", 0), ("d", 0)], counts=[("c", 0)], conds=[("c", "a")], locks=["a"])
        self.refused(TwoNames, "b", cells=[("a", 0)], counts=[("b", 0)], locks=["a", "b"])
        self.refused(TwoNames, "b", cells=[("c", 0), ("a", 0)], counts=[("c", 0)], conds=[("b", "a")], locks=["a", "b"])
        self.refused(TwoNames, "d", cells=[("d", 0), ("c", 0)], counts=[("d", 0), ("c", 0)])

    def test_a_conditions_lock_is_no_name_of_its_own(self):
        # The lock told with a condition is not read as a name once more.
        self.assertEqual(Book(locks=["m"], conds=[("c", "m"), ("e", "m")]).lock_of("e"), "m")
        self.refused(NoName, "c", locks=["m"], conds=[("c", "c")])

    def test_no_such_lock(self):
        self.refused(NoName, "m", conds=[("c", "m")])
        self.refused(NoName, "zzzzzzzz", locks=["m"], conds=[("c", "zzzzzzzz")])
        self.refused(NoName, "e", locks=["m"], conds=[("e", "m"), ("c", "e")])
        self.refused(NoName, "s", locks=["m"], conds=[("c", "s")], counts=[("s", 0)])
        self.refused(NoName, "d", locks=["m"], conds=[("c", "d")], cells=[("d", 0)])

    def test_of_several_conditions_the_first(self):
        self.refused(NoName, "z", locks=["m"], conds=[("a", "m"), ("c", "z"), ("b", "y")])
        self.refused(NoName, "y", locks=["m"], conds=[("c", "y"), ("b", "m"), ("a", "z")])

    def test_two_names_go_ahead(self):
        self.refused(TwoNames, "s", locks=["m"], conds=[("c", "z")], counts=[("s", 0), ("s", 0)])
        self.refused(TwoNames, "d", conds=[("c", "z")], cells=[("d", 0), ("d", 0)])
        self.refused(TwoNames, "c", conds=[("c", "z"), ("c", "z")])

    def test_what_is_handed_in_stays(self):
        parts = {"locks": ["n", "m"], "conds": [("c", "m")], "counts": [("s", 2)], "cells": [("d", -3)]}
        before = copy.deepcopy(parts)
        one = Book(**parts)
        client = [("lock", "m"), ("await", "c", "d", 0), ("free", "m"), ("down", "s")]
        told, start = plan_of(one, client), Built(one, [client]).world.start()
        one.lock_of("c")
        self.assertEqual(parts, before)
        parts["locks"].clear()
        parts["conds"][0] = ("c", "n")
        parts["conds"].append(("q", "n"))
        parts["counts"][0] = ("s", 9)
        parts["cells"].append(("s", 1))
        self.assertEqual(one.lock_of("c"), "m")
        self.assertEqual(plan_of(one, client), told)
        self.assertEqual(Built(one, [client]).world.start(), start)
        with self.assertRaises(BadClient):
            plan_of(one, [("lock", "m"), ("call", "q"), ("free", "m")])


class Rule(unittest.TestCase):
    def refused(self, clients, what, told=None):
        told = book() if told is None else told
        before = copy.deepcopy(clients)
        for again in range(2):
            with self.assertRaises(BadClient) as caught:
                Built(told, clients)
            self.assertIs(type(caught.exception), BadClient)
            self.assertEqual(caught.exception.what, what)
            self.assertIs(type(caught.exception.what), tuple)
        self.assertEqual(clients, before)
        guest, place = what
        with self.assertRaises(BadClient) as caught:
            plan_of(told, clients[guest])
        self.assertEqual(caught.exception.what, (0, place))
        self.assertEqual(clients, before)

    def everywhere(self, client, place):
        """The client alone, and as a later one."""
        self.refused([client], (0, place))
        self.refused([[], [("up", "s")], client, []], (2, place))

    def kept(self, client):
        Built(book(), [client])
        Built(book(), [[], client, client])
        plan_of(book(), client)

    def whole(self, row, held):
        """A client that keeps the rule, with that row in it, and the row's place."""
        ahead = [("lock", lock) for lock in held]
        behind = [("free", lock) for lock in held if row != ("free", lock)]
        if row[0] == "lock":
            behind.append(("free", row[1]))
        return ahead + [row] + behind, len(ahead)

    def test_each_kind_kept(self):
        for row, held in KINDS.values():
            self.kept(self.whole(row, held)[0])
            self.kept(self.whole(row, ("n", *held))[0])
            self.kept(self.whole(row, (*held, "n"))[0])

    def test_no_clients_and_no_rows(self):
        self.kept([])
        one = Built(book(), [])
        self.assertEqual(one.world.start(), ((0, 0, 0, 0, 0, 0, BIG, -BIG), (), (), ((),) * 8))
        self.assertEqual(Built(book(), ()).world.can(one.world.start()), [])
        self.assertEqual(Built(book(), [[], [], []]).world.start()[1], (0, 0, 0))

    def test_a_lock_locked_twice(self):
        self.everywhere([("lock", "m"), ("lock", "m"), ("free", "m")], 1)
        self.everywhere([("lock", "m"), ("up", "s"), ("lock", "n"), ("lock", "m"), ("free", "m"), ("free", "n")], 3)
        self.everywhere([("lock", "m"), ("free", "m"), ("lock", "m"), ("lock", "m")], 3)
        self.kept([("lock", "m"), ("free", "m"), ("lock", "m"), ("free", "m")])

    def test_a_lock_freed_that_is_not_held(self):
        self.everywhere([("free", "m")], 0)
        self.everywhere([("lock", "n"), ("free", "m"), ("free", "n")], 1)
        self.everywhere([("lock", "m"), ("free", "m"), ("free", "m")], 2)
        self.everywhere([("lock", "m"), ("free", "m"), ("up", "s"), ("free", "m"), ("lock", "m")], 3)

    def test_a_condition_without_its_lock(self):
        for word in AT_CONDS:
            row = KINDS[word][0]
            with self.subTest(word=word):
                self.everywhere([row], 0)
                self.everywhere([("up", "s"), row], 1)
                self.everywhere([("lock", "n"), row, ("free", "n")], 1)
                self.everywhere([("lock", "m"), ("free", "m"), row], 2)
                self.everywhere([("lock", "m"), ("lock", "n"), ("free", "m"), row, ("free", "n")], 3)
                self.everywhere([row, ("lock", "m"), ("free", "m")], 0)
                other = (word, "e", *row[2:])
                self.everywhere([("lock", "m"), other, ("free", "m")], 1)
                self.kept([("lock", "n"), other, ("free", "n")])
                self.kept([("lock", "m"), row, row, row, ("free", "m")])

    def test_rows_that_need_no_lock(self):
        for word in ("down", "up", "set", "add"):
            self.kept([KINDS[word][0]] * 3)

    def test_a_lock_held_behind_the_last_row(self):
        self.everywhere([("lock", "m")], 1)
        self.everywhere([("lock", "m"), ("up", "s"), ("down", "s")], 3)
        self.everywhere([("lock", "m"), ("lock", "n"), ("free", "m")], 3)
        self.everywhere([("lock", "m"), ("lock", "n"), ("free", "n")], 3)
        self.everywhere([("lock", "m"), ("free", "m"), ("lock", "m")], 3)
        for word in ("rest", "await", "try"):
            self.everywhere([("lock", "m"), KINDS[word][0]], 2)

    def test_two_locks_freed_in_either_order(self):
        for ahead in (("m", "n"), ("n", "m")):
            for behind in (("m", "n"), ("n", "m")):
                self.kept([("lock", lock) for lock in ahead] + [("free", lock) for lock in behind])
                self.kept([("lock", lock) for lock in ahead] + [("call", "c"), ("free", behind[0]), ("free", behind[1])])

    def test_names_that_the_book_does_not_tell_so(self):
        for word, (row, held) in KINDS.items():
            for at, kind in enumerate(NAMED[word], start=1):
                wrong = ["q", "zzzzzzzz"] + [name for other in OF_KIND if other != kind for name in OF_KIND[other]]
                for name in wrong:
                    bad = row[:at] + (name,) + row[at + 1:]
                    client, place = self.whole(bad, held)
                    with self.subTest(row=bad):
                        # Among others, as the first row, and as the last.
                        self.everywhere(client, place)
                        self.everywhere([bad], 0)
                        self.everywhere([bad, ("up", "s")], 0)
                        self.everywhere([("up", "s"), ("down", "t"), bad], 2)
                        self.everywhere([("lock", "m"), ("lock", "n"), ("free", "m"), ("free", "n"), bad], 4)

    def test_names_of_other_books(self):
        told = Book(locks=["s"], conds=[("d", "s")], counts=[("m", 1)], cells=[("c", 1)])
        self.refused([[("lock", "m"), ("free", "m")]], (0, 0), told)
        self.assertEqual(len(plan_of(told, [("lock", "s"), ("call", "d"), ("free", "s"), ("up", "m"), ("set", "c", 0)])[0]), 10)

    def test_of_several_rows_the_first(self):
        self.everywhere([("up", "s"), ("free", "m"), ("lock", "q"), ("lock", "m")], 1)
        self.everywhere([("up", "s"), ("lock", "q"), ("free", "m"), ("lock", "m")], 1)
        self.everywhere([("lock", "m"), ("up", "s"), ("rest", "e"), ("down", "q")], 2)

    def test_of_several_guests_the_least(self):
        good, late, early = [("up", "s")], [("up", "s"), ("up", "s"), ("lock", "m")], [("free", "m")]
        self.refused([good, late, early], (1, 3))
        self.refused([early, late], (0, 0))
        self.refused([late, early], (0, 3))
        self.refused([good, good, early, late], (2, 0))

    def test_numbers_are_free(self):
        for number in (0, 1, -1, BIG, -BIG):
            self.kept([("set", "d", number), ("add", "x", number), ("lock", "m"), ("await", "c", "x", number),
                       ("try", "c", "d", number), ("free", "m")])


if __name__ == "__main__":
    unittest.main()
