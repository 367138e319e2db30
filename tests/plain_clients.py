"""Built worlds and their tales written a second time, slowly and from the document alone, to hold the program against.

A book is the dict of the parts that it is made with. Besides: books, clients and picks that are drawn.
"""

import plain_world

ROWS = {
    "lock": "cas M 0 1 p+3; swap M 2 0 p+3; wait M 2 p+1 p+1 -1",
    "free": "swap M 0 1 p+2; wake M 1",
    "rest": "load C; swap M 0 1 p+3; wake M 1; still C p+4 p+4 -1; swap M 2 0 p+6; wait M 2 p+4 p+4 -1",
    "await": "if D k p+7; load C; swap M 0 1 p+4; wake M 1; still C p+5 p+5 -1; swap M 2 0 p; wait M 2 p+5 p+5 -1",
    "try": "if D k p+9; load C; swap M 0 1 p+4; wake M 1; still C p+5 p+5 p+7; swap M 2 0 p; wait M 2 p+5 p+5 -1;"
           " swap M 2 0 p+9; wait M 2 p+7 p+7 -1",
    "call": "add C 1 0 p+1; wake C 1",
    "all": "add C 1 0 p+1; move C M 1 1000",
    "down": "take S p+2; wait S 0 p p -1",
    "up": "add S 1 0 p+1; wake S 1",
    "set": "set D k",
    "add": "add D k 0 p+1",
}
PARTS = {
    "lock": "M", "free": "M", "rest": "C", "await": "CDk", "try": "CDk", "call": "C", "all": "C", "down": "S", "up": "S",
    "set": "Dk", "add": "Dk",
}
# From which row on the lock is wanting.
WANTING = {"rest": 2, "await": 3, "try": 3, "free": 1}


def lock_of(book, cond):
    return [lock for name, lock in book["conds"] if name == cond][0]


def filled(book, row, p):
    """The rows of a client's row, put in at p."""
    worths = dict(zip(PARTS[row[0]], row[1:]))
    if "C" in worths:
        worths["M"] = lock_of(book, worths["C"])
    worths.update({"p": p}, **{f"p+{more}": p + more for more in range(1, 10)})
    rows = []
    for told in ROWS[row[0]].split("; "):
        word, *parts = told.split()
        rows.append((word, *[worths[part] if part in worths else int(part) for part in parts]))
    return rows


def built(book, client):
    """The rows, the marks and the spots of a client's plan."""
    rows, marks, spots, held = [], [], [], set()
    for at, row in enumerate(client):
        fresh = filled(book, row, len(rows))
        lock = row[1] if row[0] == "free" else lock_of(book, row[1]) if row[0] in ("rest", "await", "try") else None
        for within in range(len(fresh)):
            gone = {lock} if within >= WANTING.get(row[0], 99) else set()
            marks.append(tuple(sorted(held - gone)))
            spots.append((at, within))
        rows += fresh
        if row[0] == "lock":
            held.add(row[1])
        if row[0] == "free":
            held.remove(row[1])
    return rows, marks + [()], spots + [(len(client), 0)]


def world_of(book, clients, ranks=None, nudges=False):
    rooms = {name: 0 for name in book["locks"]}
    rooms.update({name: 0 for name, lock in book["conds"]})
    rooms.update(dict(book["counts"]))
    rooms.update(dict(book["cells"]))
    plans = [built(book, client) for client in clients]
    return plain_world.plain_world(rooms, [plan[0] for plan in plans], [plan[1] for plan in plans], ranks, nudges)


def tale(book, clients, moves, ranks=None, nudges=False):
    world = world_of(book, clients, ranks, nudges)
    names = sorted(world["rooms"])
    spots = [built(book, client)[2] for client in clients]
    state = plain_world.start(world)
    events = []
    for move in moves:
        then = plain_world.after(world, state, move)
        numbers, lines = dict(zip(names, state[0])), dict(zip(names, state[3]))
        at, within = spots[move[1]][state[1][move[1]]]
        row = clients[move[1]][at]
        events += event(book, move, row, within, numbers, lines, then, dict(zip(names, then[0])))
        state = then
    return events


def event(book, move, row, within, numbers, lines, then, left):
    """The events of one move, a list of one or none, by the client's row and the place within its rows."""
    word, g = move
    name = row[1]
    if word != "step":
        asleep = {("rest", 3), ("await", 4), ("try", 4)}
        told = {"late": "late", "nudge": "nudged"}[word]
        return [(told, g, name)] if (row[0], within) in asleep else []
    match row[0], within:
        case ("lock", 0) | ("lock", 1):
            return [("takes", g, name)] if numbers[name] == 0 else []
        case ("rest", 4) | ("await", 5) | ("try", 5) | ("try", 7):
            lock = lock_of(book, name)
            return [("takes", g, lock)] if numbers[lock] == 0 else []
        case ("free", 0):
            return [("frees", g, name)]
        case ("await", 0) | ("try", 0):
            return [("sees", g, row[2], numbers[row[2]])]
        case ("rest", 1) | ("await", 2) | ("try", 2):
            return [("rests", g, name)]
        case ("rest", 3) | ("await", 4) | ("try", 4):
            return [("sleeps" if plain_world.sleeping(then, g) else "back", g, name)]
        case ("call", 0) | ("all", 0):
            return [("calls", g, name)]
        case ("call", 1):
            return [("rouses", g, name, lines[name][:1], ())]
        case ("all", 1):
            return [("rouses", g, name, lines[name][:1], lines[name][1:])]
        case ("down", 0):
            return [("downs", g, name)] if numbers[name] > 0 else []
        case ("up", 0):
            return [("ups", g, name)]
        case ("set", 0) | ("add", 0):
            return [("sets", g, name, left[name])]
    return []


def some_book(chance):
    """A book in which the names of a part do not follow their order."""
    locks = ["n", "m"][:chance.choice([1, 2, 2])]
    conds = [(name, chance.choice(locks)) for name in ("c", "o", "a")[:chance.choice([1, 2, 3])]]
    counts = [(name, chance.choice([0, 0, 1, 2])) for name in ("z", "b")[:chance.choice([1, 2])]]
    cells = [(name, chance.choice([0, 0, 1, -1])) for name in ("x", "d")[:chance.choice([1, 2])]]
    return {"locks": locks, "conds": conds, "counts": counts, "cells": cells}


def some_client(chance, book, rows):
    """A client that keeps the rule, of about so many rows."""
    client, held = [], []
    for number in range(rows):
        may = [("down", chance.choice(book["counts"])[0]), ("up", chance.choice(book["counts"])[0])]
        cell, k = chance.choice(book["cells"])[0], chance.choice([-1, 0, 0, 1])
        may += [("set", cell, k), ("add", cell, k)]
        may += [("lock", lock) for lock in book["locks"] if lock not in held] * 3
        may += [("free", lock) for lock in held] * 2
        for cond, lock in book["conds"]:
            if lock in held:
                may += [("rest", cond), ("await", cond, cell, k), ("try", cond, cell, k), ("call", cond), ("all", cond)]
        row = chance.choice(may)
        client.append(row)
        if row[0] == "lock":
            held.append(row[1])
        if row[0] == "free":
            held.remove(row[1])
    chance.shuffle(held)
    return client + [("free", lock) for lock in held]


def some_built(chance, guests, rows):
    """A book, clients that use it, and a dict of the rest."""
    book = some_book(chance)
    clients = [some_client(chance, book, chance.randrange(rows + 1)) for guest in range(guests)]
    more = {"nudges": chance.random() < 0.5}
    if chance.random() < 0.6:
        more["ranks"] = [chance.choice([-1, 0, 1]) for guest in clients]
    return book, clients, more


def some_meeting(chance, guests, rows):
    """Like some_built, but all is about one condition, so that many rest at it at once."""
    book = {"locks": ["m"], "conds": [("c", "m")], "counts": [("s", 0)], "cells": [("d", 0)]}
    clients = []
    for guest in range(guests):
        client = []
        for number in range(chance.randrange(1, rows + 1)):
            within = [("rest", "c"), ("await", "c", "d", 0), ("try", "c", "d", 0), ("try", "c", "d", 1), ("all", "c")]
            within += [("call", "c"), ("all", "c"), ("add", "d", chance.choice([1, -1])), ("set", "d", 0)]
            many = chance.choice([1, 1, 2])
            client += [("lock", "m")] + [chance.choice(within) for row in range(many)] + [("free", "m")]
        clients.append(client)
    more = {"nudges": chance.random() < 0.5}
    if chance.random() < 0.6:
        more["ranks"] = [chance.choice([-1, 0, 1]) for guest in clients]
    return book, clients, more


def some_picks(chance, many):
    return [chance.randrange(1000) for pick in range(many)]
