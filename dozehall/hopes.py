"""Hope: whether an ended state can still be come to, from wherever the weavings lead."""

from dozehall.kinds import MOST
from dozehall.reach import is_rising, leads_within, reach, state_behind, weaving_to


def hope(world, *, most=MOST):
    """A `hope` paper where each state has an ended one ahead of it, else a `trap` paper."""
    ways = reach(world, most)
    left = fewest_left(world, ways)
    for state in ways:
        if state not in left:
            return "trap", weaving_to(ways, state), trapped_from(world, state)
    return "hope", sorted([(state, left[state]) for state in left])


def fewest_left(world, ways):
    """For each state from which one can come to an ended one, the fewest own moves that lead there."""
    sources = {state: [] for state in ways}
    for state in ways:
        for move in world.own_moves(state):
            sources[world.done(state, move)].append(state)
    states = [state for state in ways if world.ended(state)]
    left = {state: 0 for state in states}
    at = 0
    while at < len(states):
        goal = states[at]
        for source in sources[goal]:
            if source not in left:
                left[source] = left[goal] + 1
                states.append(source)
        at += 1
    return left


def trapped_from(world, first):
    """All states to which own moves lead from that one, itself among them, rising."""
    states = [first]
    known = {first: True}
    at = 0
    while at < len(states):
        state = states[at]
        for move in world.own_moves(state):
            reached = world.done(state, move)
            if reached not in known:
                known[reached] = True
                states.append(reached)
        at += 1
    return sorted(states)


def hope_holds(world, paper):
    """Whether a paper, whoever made it, is true of the world."""
    if paper[0] == "hope" and len(paper) == 2:
        return lefts_hold(world, paper[1])
    if paper[0] == "trap" and len(paper) == 3:
        return trap_holds(world, paper[1], paper[2])
    return False


def lefts_hold(world, pairs):
    """Whether these are the states of a closed list with the start, each with the fewest moves that are left."""
    if not is_rising(world, [state for state, many in pairs]):
        return False
    left = {state: many for state, many in pairs}
    if world.start() not in left:
        return False
    return all(left_holds(world, state, left) for state in left)


def left_holds(world, state, left):
    """Whether all moves lead to known states, and what is left is one more than at the best of them."""
    if not leads_within(world, state, world.can(state), left):
        return False
    if world.ended(state):
        return left[state] == 0
    rests = [left[world.done(state, move)] for move in world.own_moves(state)]
    return len(rests) > 0 and left[state] == 1 + min(rests)


def trap_holds(world, moves, states):
    """Whether the weaving leads into a closed list of states, none of them ended."""
    reached = state_behind(world, moves)
    if reached is None or not is_rising(world, states):
        return False
    known = {state: True for state in states}
    if reached not in known:
        return False
    return all(is_trapped(world, state, known) for state in states)


def is_trapped(world, state, known):
    """Whether a state is not ended, and its own moves lead to known states."""
    return not world.ended(state) and leads_within(world, state, world.own_moves(state), known)
