"""Weavings: lists of moves, and the states that they lead through."""

from dozehall.errors import NoMove
from dozehall.kinds import TURNS


def run(world, moves):
    """The states of a weaving, from the start on."""
    states = [world.start()]
    for place, move in enumerate(moves):
        if move not in world.can(states[-1]):
            raise NoMove(place)
        states.append(world.done(states[-1], move))
    return states


def drive(world, picks):
    """A weaving made of whole numbers, each of which picks one of the possible moves."""
    state = world.start()
    moves = []
    for pick in picks:
        possible = world.can(state)
        if not possible:
            break
        move = possible[pick % len(possible)]
        moves.append(move)
        state = world.done(state, move)
    return moves


def by_turns(world, state, *, most=TURNS):
    """The steps that the guests make by turns, guest 0 first, until nobody can or so many are made."""
    moves = []
    guests = len(state[1])
    possible = world.steps(state)
    while possible and len(moves) < most:
        for guest in range(guests):
            move = ("step", guest)
            if move in possible and len(moves) < most:
                moves.append(move)
                state = world.done(state, move)
                possible = world.steps(state)
    return moves


def careful(world):
    """Whether no row is a move, and all that may change a room is followed by a wake of all its line."""
    many = len(world.plans)
    return all(is_careful(plan, many) for plan in world.plans)


def is_careful(plan, many):
    """Whether a plan is as in a careful world of so many guests."""
    for place, row in enumerate(plan):
        if row[0] == "move":
            return False
        if not all(wakes_all(plan, goal, row[1], many) for goal in goals(row, place)):
            return False
    return True


def goals(row, place):
    """Where a row that may change its room's number leads; nowhere, for all other rows."""
    if row[0] == "set":
        return [place + 1]
    if row[0] in ("add", "cas", "swap", "take"):
        return [place + 1, row[-1]]
    return []


def wakes_all(plan, place, room, many):
    """Whether a wake of so many in that room, or of more, stands at that place."""
    if place == len(plan):
        return False
    row = plan[place]
    return row[0] == "wake" and row[1] == room and row[2] >= many
