"""Worlds written a second time, slowly and from the document alone, to hold the program against.

A world is a dict of what it was made with; states and moves have the document's forms.
"""


def plain_world(rooms, plans, marks=None, ranks=None, nudges=False):
    if ranks is None:
        ranks = [0] * len(plans)
    if marks is None:
        marks = [[()] * (len(plan) + 1) for plan in plans]
    return {"rooms": dict(rooms), "plans": plans, "marks": marks, "ranks": ranks, "nudges": nudges}


def start(world):
    names = sorted(world["rooms"])
    noughts = (0,) * len(world["plans"])
    return tuple(world["rooms"][name] for name in names), noughts, noughts, ((),) * len(names)


def sleeping(state, guest):
    return any(guest in line for line in state[3])


def can(world, state):
    steps, late, nudges = [], [], []
    for guest, plan in enumerate(world["plans"]):
        if sleeping(state, guest):
            if plan[state[1][guest]][-1] != -1:
                late.append(("late", guest))
            if world["nudges"]:
                nudges.append(("nudge", guest))
        elif state[1][guest] != len(plan):
            steps.append(("step", guest))
    return steps + late + nudges


def after(world, state, move):
    names = sorted(world["rooms"])
    numbers = dict(zip(names, state[0]))
    places, owns = list(state[1]), list(state[2])
    lines = {name: list(line) for name, line in zip(names, state[3])}
    word, guest = move
    row = world["plans"][guest][places[guest]]
    if word == "step":
        places[guest] = step(world, row, guest, numbers, places, owns, lines)
    else:
        for line in lines.values():
            if guest in line:
                line.remove(guest)
        places[guest] = row[-1] if word == "late" else row[-2]
    return (
        tuple(numbers[name] for name in names), tuple(places), tuple(owns), tuple(tuple(lines[name]) for name in names),
    )


def lie(world, guest, line):
    ranks = world["ranks"]
    ahead = [at for at, other in enumerate(line) if ranks[other] >= ranks[guest]]
    line.insert(ahead[-1] + 1 if ahead else 0, guest)


def step(world, row, guest, numbers, places, owns, lines):
    """Does the row; the place to which it leads."""
    on = places[guest] + 1
    match row:
        case ("set", room, k):
            numbers[room] = k
            return on
        case ("add", room, k, a, place):
            numbers[room] += k
            return place if numbers[room] == a else on
        case ("cas", room, a, b, place):
            if numbers[room] != a:
                return on
            numbers[room] = b
            return place
        case ("swap", room, k, a, place):
            found, numbers[room] = numbers[room], k
            return place if found == a else on
        case ("take", room, place):
            if numbers[room] <= 0:
                return on
            numbers[room] -= 1
            return place
        case ("if", room, a, place):
            return on if numbers[room] == a else place
        case ("load", room):
            owns[guest] = numbers[room]
            return on
        case ("wait", room, k, changed, _, _):
            if numbers[room] != k:
                return changed
            lie(world, guest, lines[room])
            return places[guest]
        case ("still", room, changed, _, _):
            if numbers[room] != owns[guest]:
                return changed
            lie(world, guest, lines[room])
            return places[guest]
        case ("wake", room, n):
            wake(world, lines[room], n, places)
            return on
        case ("move", room, other, n, m):
            wake(world, lines[room], n, places)
            for number in range(m):
                if lines[room]:
                    lie(world, lines[room].pop(0), lines[other])
            return on
    raise AssertionError(row)


def wake(world, line, n, places):
    for number in range(n):
        if line:
            guest = line.pop(0)
            places[guest] = world["plans"][guest][places[guest]][-2]


def is_clash(world, state):
    marks = [set(told[place]) for told, place in zip(world["marks"], state[1])]
    return any(marks[one] & marks[two] for two in range(len(marks)) for one in range(two))


def is_ended(world, state):
    return all(place == len(plan) for place, plan in zip(state[1], world["plans"]))


def is_stuck(world, state):
    return not is_ended(world, state) and not [move for move in can(world, state) if move[0] != "nudge"]


def reachable(world, limit):
    """Each state with the fewest moves to it, or None where there are more states than the limit."""
    far = {start(world): 0}
    edge = [start(world)]
    while edge:
        fresh = []
        for state in edge:
            for move in can(world, state):
                then = after(world, state, move)
                if then not in far:
                    far[then] = far[state] + 1
                    fresh.append(then)
        if len(far) > limit:
            return None
        edge = fresh
    return far


def lefts(world, states):
    """Of each state from which an ended one can be come to, the fewest steps and late ends to it."""
    left = {state: 0 for state in states if is_ended(world, state)}
    changed = True
    while changed:
        changed = False
        for state in states:
            if is_ended(world, state):
                continue
            goals = [after(world, state, move) for move in can(world, state) if move[0] != "nudge"]
            best = min([left[goal] + 1 for goal in goals if goal in left], default=None)
            if best is not None and left.get(state) != best:
                left[state] = best
                changed = True
    return left


def some_row(chance, rooms, end):
    """A row that fits a plan with that end."""
    room, other = chance.sample(rooms, 2)
    numbers = [chance.choice([-1, 0, 0, 1, 1, 2]) for number in range(2)]
    places = [chance.randrange(end + 1) for number in range(3)]
    late = chance.choice([-1, places[2]])
    many, more = chance.choice([0, 1, 1, 2, 9]), chance.choice([0, 1, 9])
    return chance.choice([
        ("set", room, numbers[0]),
        ("add", room, numbers[0], numbers[1], places[0]),
        ("cas", room, numbers[0], numbers[1], places[0]),
        ("swap", room, numbers[0], numbers[1], places[0]),
        ("take", room, places[0]),
        ("if", room, numbers[0], places[0]),
        ("load", room),
        ("wait", room, numbers[0], places[0], places[1], late),
        ("wait", room, 0, places[0], places[1], late),
        ("still", room, places[0], places[1], late),
        ("still", room, places[0], places[1], -1),
        ("wake", room, many),
        ("move", room, other, many, more),
    ])


def some_world(chance, guests, rows):
    """What a world is made with: rooms, plans, and a dict of the rest."""
    rooms = {name: chance.choice([0, 0, 1]) for name in ("c", "a", "b")}
    plans = []
    for guest in range(guests):
        end = chance.randrange(rows + 1)
        plans.append([some_row(chance, sorted(rooms), end) for place in range(end)])
    more = {"nudges": chance.random() < 0.5}
    if chance.random() < 0.6:
        more["ranks"] = [chance.choice([-1, 0, 1]) for guest in plans]
    if chance.random() < 0.6:
        more["marks"] = [[chance.choice([(), (), (), ("m",), ("n", "m")]) for place in range(len(plan) + 1)] for plan in plans]
    return rooms, plans, more
