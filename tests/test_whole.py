"""The whole program: drawn histories at the desk, and weavings in all the ways in which they are told (points 1 to 3)."""

import copy
import random
import unittest

import plain_clients
import plain_world
from plain_hall import GUESTS, KEYS, ROOMS, STAGE_1, PlainHall, some_deed
from dozehall.books import first_fault, sleeps
from dozehall.building import Built, plan_of
from dozehall.clients import Book
from dozehall.desk import Desk
from dozehall.errors import DozeError, NoBack, Stopped
from dozehall.hopes import hope, hope_holds
from dozehall.keys import KeyHall
from dozehall.looks import holds, look
from dozehall.plain import first_untrue, holders
from dozehall.tales import tale
from dozehall.texts import plan_text, read_plan
from dozehall.ties import replay
from dozehall.weaves import drive, run
from dozehall.worlds import World

WORDS = STAGE_1 + ("take", "take", "take", "give", "give", "sleep", "sleep")


def row_of(chance, deed):
    """The row of a deed; parts that are as if left out are so now and then."""
    word, *parts = deed
    names = {"sleep": ("until", "mask"), "take": ("until",), "wake": ("most", "mask"), "move": ("still", "wakes", "moves")}
    usual = {"until": None, "mask": 255, "most": 1, "still": None, "wakes": 1, "moves": 1000}
    told = names.get(word, ())
    first = len(parts) - len(told)
    words = [word, *parts[:first]]
    for name, part in zip(told, parts[first:]):
        if part is not None and (part != usual[name] or chance.random() < 0.5):
            words += [name, part]
    return " ".join(map(str, words))


def guests_text(guests):
    return " ".join(map(str, guests)) or "nobody"


def answer_of(deed, told):
    """The text with which the desk must answer, made from a hall's answer."""
    if deed[0] in ("put", "nudge", "rank"):
        return "ok"
    if deed[0] in ("wake", "tick"):
        return guests_text(told)
    if deed[0] == "move":
        return "changed" if told is None else f"{guests_text(told[0])} / {guests_text(told[1])}"
    if deed[0] == "give":
        return "nobody" if told is None else str(told)
    return told


def is_refusal(told):
    return isinstance(told, tuple) and isinstance(told[0], str)


class Desks(unittest.TestCase):
    def say(self, desk, row):
        """The desk's answer, or the refusal's name and thing."""
        try:
            return desk.say(row)
        except DozeError as refusal:
            return type(refusal).__name__, refusal.what

    def hold_looks(self, desk, plain):
        standings = plain.standings()
        for room in ROOMS:
            self.assertEqual(desk.say(f"number {room}"), str(plain.number_of[room]))
            self.assertEqual(desk.say(f"line {room}"), guests_text(plain.lines[room]))
        for key in KEYS:
            holder = plain.holder_of[key]
            self.assertEqual(desk.say(f"holder {key}"), guests_text([] if holder is None else [holder]))
            self.assertEqual(desk.say(f"waits {key}"), guests_text(plain.lines[key]))
        for guest in GUESTS:
            self.assertEqual(desk.say(f"ending {guest}"), plain.ending_of.get(guest, "new"))
            self.assertEqual(desk.say(f"standing {guest}"), str(standings.get(guest, 0)))
        self.assertEqual(desk.log(), plain.entries)

    def one_row(self, chance, desk, pasts):
        plain = copy.deepcopy(pasts[-1])
        deed = some_deed(chance, WORDS, plain.clock)
        told = plain.ask(*deed)
        wanted = told if is_refusal(told) else answer_of(deed, told)
        self.assertEqual(self.say(desk, row_of(chance, deed)), wanted)
        if not is_refusal(told):
            pasts.append(plain)

    def one_batch(self, chance, desk, pasts):
        plain = copy.deepcopy(pasts[-1])
        rows, answers, stopped = [], [], None
        for place in range(chance.randrange(6)):
            if chance.random() < 0.2:
                rows.append("number a")
                answers.append(str(plain.number_of["a"]))
                continue
            deed = some_deed(chance, WORDS, plain.clock)
            rows.append(row_of(chance, deed) if chance.random() < 0.96 else "zzz")
            if stopped is None:
                told = ("NoRow", "zzz") if rows[-1] == "zzz" else plain.ask(*deed)
                if is_refusal(told):
                    stopped = place
                else:
                    answers.append(answer_of(deed, told))
        if stopped is None:
            self.assertEqual(desk.batch(rows), answers)
            if len(plain.entries) > len(pasts[-1].entries):
                pasts.append(plain)
        else:
            with self.assertRaises(Stopped) as caught:
                desk.batch(rows)
            self.assertEqual(caught.exception.what, stopped)

    def one_back(self, desk, pasts):
        if len(pasts) == 1:
            with self.assertRaises(NoBack) as caught:
                desk.back()
            self.assertEqual(caught.exception.what, 0)
        else:
            desk.back()
            pasts.pop()

    def history(self, chance, many, backs):
        """Rows, batches and ways back; the last of `pasts` is the second hall as it must be now."""
        desk, pasts = Desk(ROOMS, keys=KEYS), [PlainHall(ROOMS, KEYS)]
        for number in range(many):
            pick = chance.random()
            if pick < backs:
                self.one_back(desk, pasts)
            elif pick < 0.5:
                self.one_batch(chance, desk, pasts)
            else:
                self.one_row(chance, desk, pasts)
            self.hold_looks(desk, pasts[-1])
        return desk, pasts

    def test_drawn_histories(self):
        for seed in range(40):
            with self.subTest(seed=seed):
                desk, pasts = self.history(random.Random(seed), 60, 0.2)
                log = desk.log()
                self.assertIsNone(first_fault(ROOMS, log, keys=KEYS))
                ends = [(guest, end) for guest, at, trail, end, how in sleeps(log) if end is not None]
                self.assertEqual(len(ends), len(set(ends)))

    def test_back_to_the_very_beginning(self):
        for seed in range(6):
            desk, pasts = self.history(random.Random(1000 + seed), 60, 0.05)
            while len(pasts) > 1:
                self.one_back(desk, pasts)
                self.hold_looks(desk, pasts[-1])
            self.one_back(desk, pasts)
            self.assertEqual(desk.log(), [])

    def test_against_a_hall_with_keys_that_does_the_same_deeds(self):
        for seed in range(15):
            chance = random.Random(2000 + seed)
            desk, hall = Desk(ROOMS, keys=KEYS), KeyHall(ROOMS, KEYS)
            plain = PlainHall(ROOMS, KEYS)
            for number in range(100):
                deed = some_deed(chance, WORDS, hall.now())
                plain.ask(*deed)
                self.say(desk, row_of(chance, deed))
                if len(plain.entries) > len(hall.log()):
                    self.do(hall, deed)
                self.assertEqual(desk.log(), hall.log())
                for guest in GUESTS:
                    self.assertEqual(desk.say(f"standing {guest}"), str(hall.standing(guest)))

    def do(self, hall, deed):
        word, *parts = deed
        match word:
            case "sleep":
                hall.sleep(*parts[:3], until=parts[3], mask=parts[4])
            case "wake":
                hall.wake(parts[0], most=parts[1], mask=parts[2])
            case "move":
                hall.move(parts[0], parts[1], still=parts[2], wakes=parts[3], moves=parts[4])
            case "take":
                hall.take(parts[0], parts[1], until=parts[2])
            case _:
                getattr(hall, word)(*parts)

    def test_a_long_history_and_the_whole_way_back(self):
        chance = random.Random(44)
        desk, plain = Desk(ROOMS, keys=KEYS), PlainHall(ROOMS, KEYS)
        guests = [chance.randrange(1000000) for number in range(80)]
        while len(plain.entries) < 2000:
            word, *parts = some_deed(chance, WORDS, plain.clock)
            if word in ("nudge", "rank", "sleep", "take", "give"):
                parts[0] = chance.choice(guests)
            told = plain.ask(word, *parts)
            wanted = told if is_refusal(told) else answer_of((word, *parts), told)
            self.assertEqual(self.say(desk, row_of(chance, (word, *parts))), wanted)
        log = desk.log()
        self.assertEqual(log, plain.entries)
        for many in range(1999, -1, -1):
            desk.back()
            if many % 97 == 0:
                self.assertEqual(desk.log(), log[:many])
        with self.assertRaises(NoBack):
            desk.back()
        self.assertEqual(desk.log(), [])


class Weavings(unittest.TestCase):
    def test_told_in_all_ways(self):
        # One weaving: its tale is true, its plans can be written and read, and a hall does the same.
        chance = random.Random(3)
        for number in range(200):
            some = chance.choice([plain_clients.some_built, plain_clients.some_meeting])
            parts, clients, more = some(chance, chance.randrange(1, 6), 4)
            built = Built(Book(**parts), clients, **more)
            picks = plain_clients.some_picks(chance, 60)
            moves = drive(built.world, picks)
            states = run(built.world, moves)
            events = tale(built, moves)
            self.assertIsNone(first_untrue(built, events))
            rooms = plain_clients.world_of(parts, clients)["rooms"]
            plans = [plan_of(Book(**parts), client) for client in clients]
            again = World(rooms, [read_plan(plan_text(rows)) for rows, marks in plans], marks=[marks for rows, marks in plans], **more)
            self.assertEqual(run(again, drive(again, picks)), states)
            held = sorted((lock, guest) for guest, place in enumerate(states[-1][1]) for lock in plans[guest][1][place])
            self.assertEqual(holders(built, events), held)
            self.hold_hall(replay(built.world, moves), rooms, states, moves)

    def hold_hall(self, hall, rooms, states, moves):
        self.assertIsNone(first_fault(rooms, hall.log()))
        names = sorted(rooms)
        self.assertEqual([hall.number(name) for name in names], list(states[-1][0]))
        self.assertEqual([hall.line(name) for name in names], [list(line) for line in states[-1][3]])
        began = [move[1] for state, move, then in zip(states, moves, states[1:])
                 if plain_world.sleeping(then, move[1]) and not plain_world.sleeping(state, move[1])]
        self.assertEqual([told[0] for told in sleeps(hall.log())], began)

    def test_papers_of_built_worlds(self):
        chance = random.Random(28)
        words = set()
        for number in range(60):
            parts, clients, more = plain_clients.some_meeting(chance, 2, 2)
            world = Built(Book(**parts), clients, **more).world
            if plain_world.reachable(plain_clients.world_of(parts, clients, **more), 1200) is not None:
                paper, other = look(world), hope(world)
                self.assertTrue(holds(world, paper))
                self.assertTrue(hope_holds(world, other))
                self.assertNotEqual(paper[0], "clash")
                # Who can be stuck has no hope there.
                self.assertTrue(paper[0] == "well" or other[0] == "trap")
                words |= {paper[0], other[0]}
        self.assertEqual(words, {"stuck", "well", "hope", "trap"})

    def test_what_was_told_may_be_handed_in_again(self):
        # Numbers that have come to more than sixty figures, too.
        big = int("9" * 60)
        book = Book(locks=["m"], conds=[("c", "m")], cells=[("d", big)])
        client = [("add", "d", big), ("lock", "m"), ("await", "c", "d", 2 * big), ("free", "m")]
        built = Built(book, [client])
        moves = drive(built.world, [0] * 60)
        events = tale(built, moves)
        self.assertIn(("sees", 0, "d", 2 * big), events)
        self.assertIsNone(first_untrue(built, events))
        hall = replay(built.world, moves)
        rooms = {"m": 0, "c": 0, "d": big}
        self.assertIn(("put", "d", 2 * big), hall.log())
        self.assertIsNone(first_fault(rooms, hall.log()))
        self.assertTrue(holds(built.world, look(built.world)))
        self.assertTrue(built.world.is_state(run(built.world, moves)[-1]))


if __name__ == "__main__":
    unittest.main()
