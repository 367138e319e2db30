"""The interface as a whole: what is listed is there, with its arguments (points 1 and 2)."""

import importlib
import inspect
import unittest

FUNCTIONS = {
    "books": {"first_fault": "(rooms, log, *, keys=())", "sleeps": "(log)"},
    "weaves": {
        "run": "(world, moves)", "drive": "(world, picks)", "by_turns": "(world, state, *, most=4000)", "careful": "(world)",
    },
    "looks": {"look": "(world, *, most=2000)", "holds": "(world, paper)"},
    "hopes": {"hope": "(world, *, most=2000)", "hope_holds": "(world, paper)"},
    "building": {"plan_of": "(book, client)"},
    "tales": {"tale": "(built, moves)"},
    "plain": {"first_untrue": "(built, events)", "holders": "(built, events)"},
    "ties": {"replay": "(world, moves)"},
    "texts": {"row_text": "(row)", "plan_text": "(plan)", "read_row": "(text)", "read_plan": "(text)"},
}
HALL = {
    "put": "(self, room, number)", "nudge": "(self, guest)", "rank": "(self, guest, rank)",
    "sleep": "(self, guest, room, still, *, until=None, mask=255)", "wake": "(self, room, *, most=1, mask=255)",
    "move": "(self, room, other, *, still=None, wakes=1, moves=1000)", "tick": "(self, by=1)", "number": "(self, room)",
    "line": "(self, room)", "asleep": "(self)", "sleeper": "(self, guest)", "ending": "(self, guest)",
    "standing": "(self, guest)", "now": "(self)", "log": "(self)", "twin": "(self)", "__len__": "(self)", "__str__": "(self)",
}
CLASSES = {
    ("hall", "Hall"): {"__init__": "(self, rooms)", **HALL},
    ("keys", "KeyHall"): {
        "__init__": "(self, rooms, keys)", **HALL, "take": "(self, guest, key, *, until=None)", "give": "(self, guest, key)",
        "holder": "(self, key)", "waits": "(self, key)", "held": "(self, guest)", "chain": "(self, guest)",
    },
    ("worlds", "World"): {
        "__init__": "(self, rooms, plans, *, marks=None, ranks=None, nudges=False)", "start": "(self)",
        "is_state": "(self, thing)", "can": "(self, state)", "after": "(self, state, move)", "clash": "(self, state)",
        "ended": "(self, state)", "stuck": "(self, state)",
    },
    ("clients", "Book"): {"__init__": "(self, *, locks=(), conds=(), counts=(), cells=())", "lock_of": "(self, cond)"},
    ("building", "Built"): {
        "__init__": "(self, book, clients, *, ranks=None, nudges=False)", "spot": "(self, guest, place)",
    },
    ("desk", "Desk"): {
        "__init__": "(self, rooms, *, keys=())", "say": "(self, text)", "batch": "(self, rows)", "back": "(self)",
        "log": "(self)",
    },
}


class Interface(unittest.TestCase):
    def test_functions(self):
        for module, functions in FUNCTIONS.items():
            for name, wanted in functions.items():
                with self.subTest(module=module, name=name):
                    told = getattr(importlib.import_module(f"dozehall.{module}"), name)
                    self.assertEqual(str(inspect.signature(told)), wanted)

    def test_classes(self):
        for (module, name), methods in CLASSES.items():
            told = getattr(importlib.import_module(f"dozehall.{module}"), name)
            for method, wanted in methods.items():
                with self.subTest(module=module, name=name, method=method):
                    # In the class itself, not only in one that it stands under.
                    self.assertEqual(str(inspect.signature(vars(told)[method])), wanted)


if __name__ == "__main__":
    unittest.main()
