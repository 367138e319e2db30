"""A look at all weavings: a paper that tells whether a clash or a stuck state can be come to."""

from dozehall.kinds import MOST
from dozehall.reach import is_rising, leads_within, reach, state_behind, weaving_to


def look(world, *, most=MOST):
    """A `clash` paper where there is one, else a `stuck` one, else a `well` one."""
    ways = reach(world, most)
    for state in ways:
        if world.clash(state):
            return "clash", weaving_to(ways, state)
    for state in ways:
        if world.stuck(state):
            return "stuck", weaving_to(ways, state)
    return "well", sorted(ways)


def holds(world, paper):
    """Whether a paper, whoever made it, is true of the world."""
    if paper[0] == "well":
        return well_holds(world, paper[1])
    if paper[0] not in ("clash", "stuck"):
        return False
    state = state_behind(world, paper[1])
    if state is None:
        return False
    return world.clash(state) if paper[0] == "clash" else world.stuck(state)


def well_holds(world, states):
    """Whether these states are a closed list with the start and without a clash or a stuck state."""
    if not is_rising(world, states):
        return False
    known = {state: True for state in states}
    if world.start() not in known:
        return False
    return all(is_well(world, state, known) for state in states)


def is_well(world, state, known):
    """Whether a state is neither a clash nor stuck, and all moves lead to known states."""
    if world.clash(state) or world.stuck(state):
        return False
    return leads_within(world, state, world.can(state), known)
