"""The plain meaning of clients (points 2, 3 and 37 to 39)."""

import copy
import random
import unittest

import plain_clients
from plain_meaning import PlainMeaning
from dozehall.building import Built
from dozehall.clients import Book
from dozehall.plain import first_untrue, holders
from dozehall.tales import tale
from dozehall.weaves import drive, run

BIG = int("9" * 60)
PARTS = {
    "locks": ["m", "l"], "conds": [("c", "m"), ("e", "m"), ("f", "l")], "counts": [("s", 0), ("t", 2)],
    "cells": [("d", 0), ("x", 5)],
}


def at_m(*rows):
    """A client that holds m while it does these rows."""
    return [("lock", "m"), *rows, ("free", "m")]


REST = at_m(("rest", "c"))
AWAIT = at_m(("await", "c", "d", 0))
TRY = at_m(("try", "c", "d", 0))
CALL = at_m(("call", "c"))
EVERYBODY = at_m(("all", "c"))


def takes(guest, lock="m"):
    return [("takes", guest, lock)]


def resting(guest, client):
    """The events by which a guest whose client is one of those above comes to be resting at c."""
    return takes(guest) + ([] if client == REST else [("sees", guest, "d", 0)]) + [("rests", guest, "c")]


def asleep(guest, client):
    return resting(guest, client) + [("sleeps", guest, "c")]


def calls(guest, woken=(), moved=()):
    """The events of CALL and EVERYBODY, the lock let go again."""
    return takes(guest) + [("calls", guest, "c"), ("rouses", guest, "c", woken, moved), ("frees", guest, "m")]


def back(guest, client, caller):
    """The events by which it is back since there was a call while it was resting."""
    return resting(guest, client) + calls(caller) + [("back", guest, "c")]


def moved(guest, client, other, caller):
    """The events by which it is moved by an all of the caller's, while the other one, a REST, was first in the line."""
    return asleep(other, REST) + asleep(guest, client) + calls(caller, (other,), (guest,))


class Case(unittest.TestCase):
    def built(self, clients, **more):
        return Built(Book(**PARTS), clients, **more)

    def only(self, clients, events, wanted, guest=0, **more):
        """Behind the events, all true, just those are let by that the wanted list tells, of all events of the guest."""
        built = self.built(clients, **more)
        self.assertIsNone(first_untrue(built, events))
        plain = PlainMeaning(PARTS, clients, **more)
        for event in events:
            self.assertTrue(plain.do(event), event)
        told = [event for event in plain.all_events() if event[1] == guest]
        for event in {*told, *wanted}:
            with self.subTest(event=event):
                place = first_untrue(built, events + [event])
                self.assertEqual(place, None if event in wanted else len(events))

    def holding(self, clients, events, wanted, **more):
        self.assertEqual(holders(self.built(clients, **more), events), wanted)


class Ways(Case):
    """What is let by in each way of being at each kind of row."""

    def test_fresh_at_a_lock(self):
        self.only([CALL], [], [("takes", 0, "m")])
        self.only([[("lock", "l"), ("free", "l")]], [], [("takes", 0, "l")])
        # Somebody else holds it, or another one, or held it.
        self.only([CALL, CALL], takes(1), [])
        self.only([CALL, [("lock", "l"), ("free", "l")]], takes(1, "l"), [("takes", 0, "m")])
        self.only([CALL, CALL], calls(1), [("takes", 0, "m")])

    def test_fresh_at_a_free(self):
        self.only([at_m()], takes(0), [("frees", 0, "m")])
        both = [("lock", "m"), ("lock", "l"), ("free", "m"), ("free", "l")]
        self.only([both], takes(0) + takes(0, "l"), [("frees", 0, "m")])
        self.only([both], takes(0) + takes(0, "l") + [("frees", 0, "m")], [("frees", 0, "l")])

    def test_at_a_rest(self):
        self.only([REST], takes(0), [("rests", 0, "c")])
        self.only([REST], resting(0, REST), [("sleeps", 0, "c")])
        self.only([REST, CALL], resting(0, REST) + calls(1), [("back", 0, "c")])
        self.only([REST, CALL], back(0, REST, 1), [("takes", 0, "m")])
        self.only([REST], asleep(0, REST), [])
        self.only([REST], asleep(0, REST), [("nudged", 0, "c")], nudges=True)
        self.only([REST, CALL], asleep(0, REST) + calls(1, (0,)), [("takes", 0, "m")], nudges=True)
        self.only([REST, REST, EVERYBODY], moved(0, REST, 1, 2), [("takes", 0, "m")])
        self.only([REST, REST, EVERYBODY], moved(0, REST, 1, 2), [("takes", 0, "m"), ("nudged", 0, "c")], nudges=True)

    def test_at_an_await(self):
        self.only([AWAIT], takes(0), [("sees", 0, "d", 0)])
        self.only([AWAIT], takes(0) + [("sees", 0, "d", 0)], [("rests", 0, "c")])
        self.only([AWAIT], resting(0, AWAIT), [("sleeps", 0, "c")])
        self.only([AWAIT, CALL], resting(0, AWAIT) + calls(1), [("back", 0, "c")])
        self.only([AWAIT, CALL], back(0, AWAIT, 1), [("takes", 0, "m")])
        self.only([AWAIT], asleep(0, AWAIT), [])
        self.only([AWAIT], asleep(0, AWAIT), [("nudged", 0, "c")], nudges=True)
        self.only([AWAIT, REST, EVERYBODY], moved(0, AWAIT, 1, 2), [("takes", 0, "m")])
        self.only([AWAIT, REST, EVERYBODY], moved(0, AWAIT, 1, 2), [("takes", 0, "m"), ("nudged", 0, "c")], nudges=True)

    def test_at_a_try(self):
        self.only([TRY], takes(0), [("sees", 0, "d", 0)])
        self.only([TRY], takes(0) + [("sees", 0, "d", 0)], [("rests", 0, "c")])
        self.only([TRY], resting(0, TRY), [("sleeps", 0, "c")])
        self.only([TRY, CALL], resting(0, TRY) + calls(1), [("back", 0, "c")])
        self.only([TRY, CALL], back(0, TRY, 1), [("takes", 0, "m")])
        self.only([TRY], asleep(0, TRY), [("late", 0, "c")])
        self.only([TRY], asleep(0, TRY), [("late", 0, "c"), ("nudged", 0, "c")], nudges=True)
        self.only([TRY], asleep(0, TRY) + [("late", 0, "c")], [("takes", 0, "m")], nudges=True)
        self.only([TRY, REST, EVERYBODY], moved(0, TRY, 1, 2), [("takes", 0, "m"), ("late", 0, "c")])
        wanted = [("takes", 0, "m"), ("late", 0, "c"), ("nudged", 0, "c")]
        self.only([TRY, REST, EVERYBODY], moved(0, TRY, 1, 2), wanted, nudges=True)
        self.only([TRY, REST, EVERYBODY], moved(0, TRY, 1, 2) + [("late", 0, "c")], [("takes", 0, "m")], nudges=True)
        self.only([TRY, REST, EVERYBODY], moved(0, TRY, 1, 2) + [("nudged", 0, "c")], [("takes", 0, "m")], nudges=True)

    def test_a_lock_that_somebody_else_holds(self):
        held = takes(3)
        for client in (REST, AWAIT, TRY):
            clients = [client, REST, EVERYBODY, CALL]
            self.only(clients, back(0, client, 2) + held, [])
            late = [("late", 0, "c")] if client == TRY else []
            self.only(clients, moved(0, client, 1, 2) + held, late)
        self.only([TRY, REST, EVERYBODY, CALL], asleep(0, TRY) + [("late", 0, "c")] + held, [])

    def test_at_a_call_and_at_an_all(self):
        for client in (CALL, EVERYBODY):
            self.only([client], takes(0), [("calls", 0, "c")])
            calling = takes(0) + [("calls", 0, "c")]
            self.only([client], calling, [("rouses", 0, "c", (), ())])
            self.only([client, REST], asleep(1, REST) + calling, [("rouses", 0, "c", (1,), ())])
        two = asleep(1, REST) + asleep(2, REST) + takes(0) + [("calls", 0, "c")]
        self.only([CALL, REST, REST], two, [("rouses", 0, "c", (1,), ())])
        self.only([EVERYBODY, REST, REST], two, [("rouses", 0, "c", (1,), (2,))])
        three = asleep(1, REST) + asleep(2, REST) + asleep(3, REST) + takes(0) + [("calls", 0, "c")]
        self.only([CALL, REST, REST, REST], three, [("rouses", 0, "c", (1,), ())])
        self.only([EVERYBODY, REST, REST, REST], three, [("rouses", 0, "c", (1,), (2, 3))])

    def test_at_the_other_condition_of_a_lock(self):
        rest, call = at_m(("rest", "e")), at_m(("call", "e"))
        self.only([rest], takes(0), [("rests", 0, "e")])
        self.only([rest], takes(0) + [("rests", 0, "e")], [("sleeps", 0, "e")])
        # The calls of one condition are none of the other's.
        self.only([rest, CALL], takes(0) + [("rests", 0, "e")] + calls(1), [("sleeps", 0, "e")])
        self.only([call, REST], asleep(1, REST) + takes(0) + [("calls", 0, "e")], [("rouses", 0, "e", (), ())])

    def test_at_downs_and_ups(self):
        self.only([[("down", "s")]], [], [])
        self.only([[("down", "t")]], [], [("downs", 0, "t")])
        self.only([[("down", "t")], [("down", "t")] * 2], [("downs", 1, "t")], [("downs", 0, "t")])
        self.only([[("down", "t")], [("down", "t")] * 2], [("downs", 1, "t")] * 2, [])
        self.only([[("down", "s")], [("up", "s")]], [("ups", 1, "s")], [("downs", 0, "s")])
        self.only([[("up", "s")]], [], [("ups", 0, "s")])
        self.only([[("down", "s")] * 2, [("up", "s")]], [("ups", 1, "s"), ("downs", 0, "s")], [])
        self.only([[("up", "t")] + [("down", "t")] * 4], [("ups", 0, "t")] + [("downs", 0, "t")] * 2, [("downs", 0, "t")])
        self.only([[("up", "t")] + [("down", "t")] * 4], [("ups", 0, "t")] + [("downs", 0, "t")] * 3, [])

    def test_at_sets_and_adds(self):
        self.only([[("set", "d", 1)]], [], [("sets", 0, "d", 1)])
        self.only([[("set", "d", 0)]], [], [("sets", 0, "d", 0)])
        self.only([[("set", "x", 4)]], [], [("sets", 0, "x", 4)])
        self.only([[("add", "x", 1)]], [], [("sets", 0, "x", 6)])
        self.only([[("add", "x", -1)]], [], [("sets", 0, "x", 4)])
        self.only([[("add", "d", 0)]], [], [("sets", 0, "d", 0)])
        self.only([[("add", "x", 1)], [("set", "x", -1)]], [("sets", 1, "x", -1)], [("sets", 0, "x", 0)])

    def test_at_its_end(self):
        self.only([[]], [], [])
        self.only([[("up", "s")]], [("ups", 0, "s")], [])
        self.only([at_m()], takes(0) + [("frees", 0, "m")], [])

    def test_guests_that_are_not_there(self):
        clients = [[("up", "s")], [("up", "s")]]
        for guest in (-1, 2, 10 ** 70):
            self.only(clients, [], [], guest=guest)
            self.only(clients, [("ups", 1, "s")], [], guest=guest)
        self.assertEqual(first_untrue(self.built(clients), [("ups", -2, "s")]), 0)
        self.assertEqual(first_untrue(self.built([]), [("ups", 0, "s")]), 0)
        built = self.built([EVERYBODY, REST, REST])
        events = asleep(1, REST) + asleep(2, REST) + takes(0) + [("calls", 0, "c")]
        for woken, others in (((-2,), (2,)), ((1,), (-1,)), ((9,), (2,)), ((1,), (2, 9)), ((-BIG,), ()), ((1, 2), ()), ((), (1, 2))):
            self.assertEqual(first_untrue(built, events + [("rouses", 0, "c", woken, others)]), len(events))

    def test_an_event_of_another_kind(self):
        # The document lets no such thing be handed in; it is no event that a rule lets by.
        self.assertEqual(first_untrue(self.built([[("up", "s")]]), [("ups", 0, "s"), ("zzz", 0, "s")]), 1)

    def test_names_that_are_not_there(self):
        for name in ("q", "zzzzzzzz", "m", "c", "d"):
            self.assertEqual(first_untrue(self.built([[("up", "s")]]), [("ups", 0, name)]), 0)
            self.assertEqual(first_untrue(self.built([[("down", "t")]]), [("downs", 0, name)]), 0)
        for name in ("q", "l", "c", "s", "d"):
            self.assertEqual(first_untrue(self.built([at_m()]), [("takes", 0, name)]), 0)
            self.assertEqual(first_untrue(self.built([at_m()]), takes(0) + [("frees", 0, name)]), 1)


class Changes(Case):
    """Where guests are behind each event, and who holds what."""

    def test_takes_from_a_lock(self):
        clients = [at_m(("up", "s"))]
        self.holding(clients, [], [])
        self.holding(clients, takes(0), [("m", 0)])
        self.only(clients, takes(0), [("ups", 0, "s")])
        both = [("lock", "m"), ("lock", "l"), ("free", "m"), ("free", "l")]
        self.holding([both], takes(0) + takes(0, "l"), [("l", 0), ("m", 0)])
        self.holding([both], takes(0) + takes(0, "l") + [("frees", 0, "m")], [("l", 0)])
        clients = [[("lock", "l"), ("free", "l")], at_m()]
        self.holding(clients, takes(1) + takes(0, "l"), [("l", 0), ("m", 1)])
        self.holding(clients, takes(1) + takes(0, "l") + [("frees", 0, "l")], [("m", 1)])

    def test_takes_from_a_rest_goes_on(self):
        on = at_m(("rest", "c"), ("up", "s"))
        for events in (back(0, REST, 1), moved(0, REST, 2, 3), asleep(0, REST) + [("nudged", 0, "c")]):
            clients = [on, CALL, REST, EVERYBODY]
            self.holding(clients, events, [], nudges=True)
            self.holding(clients, events + takes(0), [("m", 0)], nudges=True)
            self.only(clients, events + takes(0), [("ups", 0, "s")], nudges=True)

    def test_takes_from_an_await_looks_again(self):
        for events in (back(0, AWAIT, 1), moved(0, AWAIT, 2, 3), asleep(0, AWAIT) + [("nudged", 0, "c")]):
            clients = [AWAIT, CALL, REST, EVERYBODY]
            self.holding(clients, events + takes(0), [("m", 0)], nudges=True)
            self.only(clients, events + takes(0), [("sees", 0, "d", 0)], nudges=True)

    def test_takes_from_a_try_looks_again_or_was_late(self):
        on = at_m(("try", "c", "d", 0), ("up", "s"))
        clients = [on, CALL, REST, EVERYBODY]
        for events in (back(0, TRY, 1), moved(0, TRY, 2, 3), asleep(0, TRY) + [("nudged", 0, "c")]):
            self.holding(clients, events + takes(0), [("m", 0)], nudges=True)
            self.only(clients, events + takes(0), [("sees", 0, "d", 0)], nudges=True)
        for events in (asleep(0, TRY) + [("late", 0, "c")], moved(0, TRY, 2, 3) + [("late", 0, "c")]):
            self.holding(clients, events, [])
            self.holding(clients, events + takes(0), [("m", 0)])
            self.only(clients, events + takes(0), [("ups", 0, "s")], nudges=True)

    def test_a_second_rest_at_the_same_row(self):
        again = [("sees", 0, "d", 0), ("rests", 0, "c")]
        for client in (AWAIT, TRY):
            self.only([client, CALL], back(0, client, 1) + takes(0) + again, [("sleeps", 0, "c")])
            self.only([client, CALL], back(0, client, 1) + takes(0) + again[:1], [("rests", 0, "c")])

    def test_sees_another_number_goes_on(self):
        for word in ("await", "try"):
            client = at_m((word, "c", "x", 0), ("up", "s"))
            self.only([client], takes(0), [("sees", 0, "x", 5)])
            self.only([client], takes(0) + [("sees", 0, "x", 5)], [("ups", 0, "s")])
            self.holding([client], takes(0) + [("sees", 0, "x", 5)], [("m", 0)])
            client = at_m((word, "c", "x", 5))
            self.only([client], takes(0) + [("sees", 0, "x", 5)], [("rests", 0, "c")])

    def test_rests_lets_the_lock_go(self):
        for client in (REST, AWAIT, TRY):
            events = resting(0, client)
            self.holding([client], events[:-1], [("m", 0)])
            self.holding([client], events, [])
        both = [("lock", "l"), *REST, ("free", "l")]
        self.holding([both], takes(0, "l") + resting(0, REST), [("l", 0)])

    def test_a_ticket_behind_other_calls(self):
        # What counts is whether there was a call since, not whether there was one at all.
        clients = [REST, CALL, EVERYBODY, CALL]
        for ahead in (calls(1), calls(1) + calls(2), calls(3)):
            self.only(clients, ahead + resting(0, REST), [("sleeps", 0, "c")])
        self.only(clients, calls(1) + resting(0, REST) + calls(2), [("back", 0, "c")])
        self.only(clients, calls(1) + resting(0, REST) + calls(2) + calls(3), [("back", 0, "c")])
        # The call is done as soon as it is told, ahead of its rouses.
        self.only(clients, resting(0, REST) + takes(1) + [("calls", 1, "c")], [("back", 0, "c")])

    def test_tickets_are_each_guests_own(self):
        clients = [REST, REST, CALL]
        events = resting(0, REST) + calls(2) + resting(1, REST)
        self.only(clients, events, [("back", 0, "c")])
        self.only(clients, events, [("sleeps", 1, "c")], guest=1)

    def test_a_call_goes_on_behind_its_rouses(self):
        for word in ("call", "all"):
            client = at_m((word, "c"), ("up", "s"))
            events = takes(0) + [("calls", 0, "c"), ("rouses", 0, "c", (), ())]
            self.only([client], events, [("ups", 0, "s")])
            self.holding([client], events, [("m", 0)])

    def test_those_woken_leave_the_line(self):
        clients = [at_m(("call", "c"), ("all", "c")), REST, REST, REST]
        events = asleep(1, REST) + asleep(2, REST) + asleep(3, REST) + takes(0) + [("calls", 0, "c"), ("rouses", 0, "c", (1,), ())]
        self.only(clients, events + [("calls", 0, "c")], [("rouses", 0, "c", (2,), (3,))])

    def test_those_moved_leave_the_line(self):
        clients = [at_m(("all", "c"), ("all", "c")), REST, REST]
        events = asleep(1, REST) + asleep(2, REST) + takes(0) + [("calls", 0, "c"), ("rouses", 0, "c", (1,), (2,))]
        self.only(clients, events + [("calls", 0, "c")], [("rouses", 0, "c", (), ())])

    def test_those_late_or_nudged_leave_the_line(self):
        clients = [EVERYBODY, REST, TRY, REST]
        events = asleep(1, REST) + asleep(2, TRY) + asleep(3, REST)
        calling = takes(0) + [("calls", 0, "c")]
        for gone in (("late", 2, "c"), ("nudged", 2, "c")):
            self.only(clients, events + [gone] + calling, [("rouses", 0, "c", (1,), (3,))], nudges=True)
        self.only(clients, events + [("nudged", 1, "c")] + calling, [("rouses", 0, "c", (2,), (3,))], nudges=True)
        self.only(clients, events + [("nudged", 3, "c")] + calling, [("rouses", 0, "c", (1,), (2,))], nudges=True)

    def test_moved_ones_that_are_late_or_nudged_while_others_lie_there(self):
        clients = [TRY, REST, EVERYBODY, REST, EVERYBODY]
        events = moved(0, TRY, 1, 2) + asleep(3, REST)
        for gone in (("late", 0, "c"), ("nudged", 0, "c")):
            calling = takes(4) + [("calls", 4, "c")]
            self.only(clients, events + [gone] + calling, [("rouses", 4, "c", (3,), ())], guest=4, nudges=True)

    def test_no_nudges(self):
        for client in (REST, AWAIT, TRY):
            events = asleep(0, client)
            for nudges, wanted in ((True, None), (False, len(events))):
                self.assertEqual(first_untrue(self.built([client], nudges=nudges), events + [("nudged", 0, "c")]), wanted)
            self.assertEqual(first_untrue(self.built([client]), events + [("nudged", 0, "c")]), len(events))

    def test_the_place_in_a_line_by_ranks(self):
        clients = [EVERYBODY, REST, REST, REST, REST]
        for ranks, line in (
            (None, (1, 2, 3, 4)),
            ([0, 0, 0, 0, 0], (1, 2, 3, 4)),
            ([0, 1, 2, 3, 4], (4, 3, 2, 1)),
            ([9, 4, 3, 2, 1], (1, 2, 3, 4)),
            ([0, 1, 2, 1, 2], (2, 4, 1, 3)),
            ([0, -BIG, 0, BIG, 0], (3, 2, 4, 1)),
        ):
            events = [event for guest in (1, 2, 3, 4) for event in asleep(guest, REST)] + takes(0) + [("calls", 0, "c")]
            self.only(clients, events, [("rouses", 0, "c", line[:1], line[1:])], ranks=ranks)

    def test_numbers(self):
        client = [("down", "t"), ("down", "t"), ("up", "t"), ("down", "t"), ("set", "x", -3), ("add", "x", 1), ("add", "x", 1)]
        events = [
            ("downs", 0, "t"), ("downs", 0, "t"), ("ups", 0, "t"), ("downs", 0, "t"), ("sets", 0, "x", -3), ("sets", 0, "x", -2),
            ("sets", 0, "x", -1),
        ]
        for many in range(len(events)):
            self.only([client], events[:many], [events[many]])
        self.only([client], events, [])

    def test_big_numbers(self):
        client = at_m(("set", "d", -BIG), ("add", "d", 2 * BIG), ("add", "d", BIG), ("await", "c", "d", 0))
        events = takes(0) + [("sets", 0, "d", -BIG), ("sets", 0, "d", BIG), ("sets", 0, "d", 2 * BIG), ("sees", 0, "d", 2 * BIG)]
        built = self.built([client])
        self.assertIsNone(first_untrue(built, events))
        for place in (1, 2, 3, 4):
            for number in (events[place][3] + 1, -events[place][3], 10 ** 200, -10 ** 200):
                told = list(events)
                told[place] = events[place][:3] + (number,)
                self.assertEqual(first_untrue(built, told), place)


class Places(Case):
    def test_none_of_none(self):
        self.assertIsNone(first_untrue(self.built([]), []))
        self.assertIsNone(first_untrue(self.built([REST, CALL]), []))
        self.assertEqual(holders(self.built([]), []), [])
        self.assertIsNone(first_untrue(Built(Book(), []), []))
        self.assertEqual(holders(Built(Book(), []), []), [])

    def test_of_several_the_first(self):
        built = self.built([REST, CALL])
        good = asleep(0, REST) + calls(1, (0,)) + takes(0)
        self.assertIsNone(first_untrue(built, good))
        bad = ("ups", 0, "s")
        for place in range(len(good) + 1):
            told = good[:place] + [bad] + good[place:]
            self.assertEqual(first_untrue(built, told), place)
            self.assertEqual(first_untrue(built, told + [bad, bad]), place)
            self.assertIs(type(first_untrue(built, told)), int)
        self.assertEqual(first_untrue(built, [bad]), 0)

    def test_an_untrue_event_changes_nothing(self):
        # What is untrue is untrue each time that it is told.
        built = self.built([REST, CALL])
        for events in ([("rests", 0, "c")], takes(0) + takes(1)):
            self.assertEqual(first_untrue(built, events), first_untrue(built, events))
            self.assertEqual(first_untrue(built, events), len(events) - 1)

    def test_handed_in_lists_stay_and_told_ones_are_the_askers_own(self):
        clients = [list(REST), list(CALL)]
        built = self.built(clients)
        events = asleep(0, REST) + calls(1, (0,)) + takes(0)
        before = copy.deepcopy((clients, events))
        self.assertIsNone(first_untrue(built, events))
        told = holders(built, events)
        self.assertEqual(told, [("m", 0)])
        self.assertEqual((clients, events), before)
        told.clear()
        clients[0].clear()
        clients[1][0] = ("lock", "l")
        self.assertEqual(holders(built, events), [("m", 0)])
        self.assertIsNone(first_untrue(built, events))


class Drawn(unittest.TestCase):
    def some(self, chance, guests):
        some = chance.choice([plain_clients.some_built, plain_clients.some_meeting])
        return some(chance, guests, 5)

    def test_tales_and_each_beginning_of_them(self):
        chance = random.Random(39)
        held = 0
        for number in range(250):
            parts, clients, more = self.some(chance, chance.randrange(1, 6))
            built = Built(Book(**parts), clients, **more)
            moves = drive(built.world, plain_clients.some_picks(chance, 110))
            self.assertIsNone(first_untrue(built, tale(built, moves)))
            marks = [plain_clients.built(parts, client)[1] for client in clients]
            for many, state in enumerate(run(built.world, moves)):
                if many % 7 == 0 or many == len(moves):
                    told = tale(built, moves[:many])
                    self.assertIsNone(first_untrue(built, told))
                    wanted = [(lock, guest) for guest, place in enumerate(state[1]) for lock in marks[guest][place]]
                    self.assertEqual(holders(built, told), sorted(wanted))
                    held += len(wanted)
        self.assertGreater(held, 500)

    def test_tales_put_otherwise(self):
        chance = random.Random(391)
        untrue = {kind: 0 for kind in ("left out", "twice", "exchanged", "otherwise")}
        for number in range(500):
            parts, clients, more = self.some(chance, chance.randrange(1, 5))
            built = Built(Book(**parts), clients, **more)
            events = tale(built, drive(built.world, plain_clients.some_picks(chance, 90)))
            for kind in untrue if len(events) > 1 else ():
                told = self.put_otherwise(chance, kind, events, len(clients))
                place = self.first(PlainMeaning(parts, clients, **more), told)
                self.assertEqual(first_untrue(built, told), place)
                untrue[kind] += place is not None
        for kind in untrue:
            self.assertGreater(untrue[kind], 200, kind)

    def put_otherwise(self, chance, kind, events, guests):
        told = list(events)
        one, two = chance.randrange(len(told)), chance.randrange(len(told) - 1)
        if kind == "left out":
            del told[one]
        elif kind == "twice":
            told.insert(one, told[one])
        elif kind == "exchanged":
            told[two], told[two + 1] = told[two + 1], told[two]
        else:
            part = chance.randrange(1, len(told[one]))
            worth = told[one][part]
            if part == 1:
                worth = chance.randrange(-1, guests + 1)
            elif isinstance(worth, str):
                worth = chance.choice(["m", "n", "c", "o", "z", "b", "d", "x", "q"])
            elif isinstance(worth, int):
                worth += chance.choice([-1, 1])
            else:
                worth = chance.choice([(), (0,), (1,), (0, 1), worth[::-1], worth + worth])
            told[one] = told[one][:part] + (worth,) + told[one][part + 1:]
        return told

    def first(self, plain, events):
        for place, event in enumerate(events):
            if not plain.do(event):
                return place
        return None

    def test_more_than_weavings_do(self):
        # Histories that are drawn among all events that are let by, not by weavings.
        chance = random.Random(38)
        words = set()
        for number in range(120):
            parts, clients, more = self.some(chance, chance.randrange(1, 4))
            built = Built(Book(**parts), clients, **more)
            plain = PlainMeaning(parts, clients, **more)
            events = []
            for many in range(40):
                told = list(plain.all_events())
                good = [event for event in told if plain.lets(event)]
                for event in chance.sample(told, 12) + good:
                    self.assertEqual(first_untrue(built, events + [event]), None if event in good else len(events))
                if not good:
                    break
                events.append(chance.choice(good))
                self.assertTrue(plain.do(events[-1]))
                self.assertEqual(holders(built, events), plain.held())
            words.update(event[0] for event in events)
        self.assertEqual(len(words), 13)


if __name__ == "__main__":
    unittest.main()
