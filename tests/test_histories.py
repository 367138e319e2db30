"""Long histories of many deeds, held against a hall that was written a second time (points 2 to 20)."""

import random
import unittest

from plain_hall import GUESTS, KEYS, ROOMS, STAGE_1, PlainHall, some_deed

from dozehall.books import first_fault, sleeps
from dozehall.errors import DozeError
from dozehall.hall import Hall
from dozehall.keys import KeyHall


def ask(hall, word, *parts):
    """The program's answer, in the form of PlainHall.ask."""
    try:
        if word == "sleep":
            return hall.sleep(*parts[:3], until=parts[3], mask=parts[4])
        if word == "wake":
            return hall.wake(parts[0], most=parts[1], mask=parts[2])
        if word == "move":
            return hall.move(parts[0], parts[1], still=parts[2], wakes=parts[3], moves=parts[4])
        if word == "take":
            return hall.take(parts[0], parts[1], until=parts[2])
        return getattr(hall, word)(*parts)
    except DozeError as refusal:
        return type(refusal).__name__, refusal.what


class Histories(unittest.TestCase):
    def hold_against(self, hall, plain):
        """All looks of the hall against what the other one keeps."""
        standings = plain.standings()
        asleep = sorted(guest for line in plain.lines.values() for guest in line)
        self.assertEqual(hall.now(), plain.clock)
        self.assertEqual(hall.asleep(), asleep)
        self.assertEqual(len(hall), len(asleep))
        self.assertEqual(str(hall), f"at {plain.clock}: {' '.join(map(str, asleep)) or 'nobody'}")
        for room in ROOMS:
            self.assertEqual(hall.number(room), plain.number_of[room])
            self.assertEqual(hall.line(room), plain.lines[room])
        for guest in GUESTS:
            self.assertEqual(hall.ending(guest), plain.ending_of.get(guest, "new"))
            self.assertEqual(hall.standing(guest), standings.get(guest, 0))
            where = plain.where(guest)
            self.assertEqual(hall.sleeper(guest), where and (where,) + plain.keeps[guest])
        if isinstance(hall, KeyHall):
            self.hold_keys_against(hall, plain)

    def hold_keys_against(self, hall, plain):
        for key in KEYS:
            self.assertEqual(hall.holder(key), plain.holder_of[key])
            self.assertEqual(hall.waits(key), plain.lines[key])
        for guest in GUESTS:
            held = [key for key in KEYS if plain.holder_of[key] == guest]
            self.assertEqual(hall.held(guest), held)
            chain = hall.chain(guest)
            self.assertEqual(chain[0], guest)
            for one, then in zip(chain, chain[1:]):
                self.assertEqual(plain.holder_of[plain.where(then)], one)
            self.assertEqual(plain.rank_of.get(chain[-1], 0), hall.standing(guest))

    def hold_sleeps(self, log):
        """Each sleep ends at most once, by one entry, and is told where it does."""
        ends = {}
        for guest, at, trail, end, how in sleeps(log):
            self.assertEqual((log[at][1], log[at][-1]), (guest, "asleep"))
            places = [at] + [place for place, room in trail] + ([] if end is None else [end])
            self.assertEqual(places, sorted(set(places)))
            for place, room in trail:
                self.assertIn(guest, log[place][-1][1])
                self.assertEqual(log[place][2], room)
            if end is not None:
                self.assertNotIn((guest, end), ends)
                ends[guest, end] = how
        told = {}
        for place, entry in enumerate(log):
            if entry[0] in ("wake", "tick"):
                for guest in entry[-1]:
                    self.assertNotIn((guest, place), told)
                    told[guest, place] = "woken" if entry[0] == "wake" else "late"
            if entry[0] == "move" and entry[-1] is not None:
                for guest in entry[-1][0]:
                    told[guest, place] = "woken"
            if entry[0] == "nudge":
                told[entry[1], place] = "nudged"
            if entry[0] == "give" and entry[-1] is not None:
                told[entry[-1], place] = "held"
        self.assertEqual(ends, told)

    def history(self, seed, make, words, many):
        chance = random.Random(seed)
        hall = make()
        plain = PlainHall(ROOMS, KEYS)
        for number in range(many):
            deed = some_deed(chance, words, plain.clock)
            wanted = plain.ask(*deed)
            self.assertEqual(ask(hall, *deed), wanted, deed)
            self.assertEqual(hall.log(), plain.entries)
            self.hold_against(hall, plain)
            if chance.random() < 0.05:
                hall = hall.twin()
        return hall

    def test_halls(self):
        for seed in range(25):
            with self.subTest(seed=seed):
                hall = self.history(seed, lambda: Hall(ROOMS), STAGE_1, 90)
                self.assertIs(type(hall), Hall)
                self.assertIsNone(first_fault(ROOMS, hall.log()))
                self.hold_sleeps(hall.log())

    def test_halls_with_keys(self):
        words = STAGE_1 + ("take", "take", "take", "take", "give", "give", "rank")
        for seed in range(60):
            with self.subTest(seed=seed):
                hall = self.history(seed, lambda: KeyHall(ROOMS, KEYS), words, 120)
                self.assertIs(type(hall), KeyHall)
                self.assertIsNone(first_fault(ROOMS, hall.log(), keys=KEYS))
                self.hold_sleeps(hall.log())

    def test_keys_alone(self):
        for seed in range(60):
            with self.subTest(seed=seed):
                self.history(seed, lambda: KeyHall(ROOMS, KEYS), ("take", "take", "take", "give", "rank", "sleep"), 100)

    def test_a_history_of_two_thousand_deeds(self):
        chance = random.Random(7)
        hall = KeyHall(ROOMS, KEYS)
        plain = PlainHall(ROOMS, KEYS)
        guests = [chance.randrange(1000000) for number in range(80)]
        while len(plain.entries) < 2000:
            word, *parts = some_deed(chance, STAGE_1 + ("sleep", "sleep", "take", "take", "give"), plain.clock)
            if word in ("nudge", "rank", "sleep", "take", "give"):
                parts[0] = chance.choice(guests)
            self.assertEqual(ask(hall, word, *parts), plain.ask(word, *parts))
        self.assertEqual(hall.log(), plain.entries)
        self.hold_sleeps(hall.log())


if __name__ == "__main__":
    unittest.main()
