"""The states that can be come to, and what papers about them have in common."""

from dozehall.errors import NoMove, TooMany
from dozehall.weaves import run


def reach(world, most):
    """Each state that can be come to, with the state and the move ahead of it on a shortest weaving there.

    The start has None. States to which fewer moves lead stand ahead of others.
    """
    if most < 1:
        raise TooMany(most)
    states = [world.start()]
    ways = {states[0]: None}
    at = 0
    while at < len(states):
        state = states[at]
        for move in world.can(state):
            reached = world.done(state, move)
            if reached not in ways:
                if len(states) == most:
                    raise TooMany(most)
                ways[reached] = (state, move)
                states.append(reached)
        at += 1
    return ways


def weaving_to(ways, state):
    """The moves of a shortest weaving to that state."""
    moves = []
    while ways[state] is not None:
        state, move = ways[state]
        moves.append(move)
    return moves[::-1]


def state_behind(world, moves):
    """The state to which the moves lead, or None where they are no weaving."""
    try:
        return run(world, moves)[-1]
    except NoMove:
        return None


def is_rising(world, states):
    """Whether that is a rising list of states of the world, each once."""
    if not all(world.is_state(state) for state in states):
        return False
    return all(one < other for one, other in zip(states, states[1:]))


def leads_within(world, state, moves, known):
    """Whether all of these moves, possible in the state, lead to known states."""
    return all(world.done(state, move) in known for move in moves)
