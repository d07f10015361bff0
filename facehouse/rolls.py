"""Plans of rollings of one face, as few steps as can be, and the looker at them (30).

A state is a tuple of the editions that the ends speak, as the ends stand; place is that of the server among them.
"""

from facehouse.basics import is_whole
from facehouse.talk import talks


def plan(book, face, server, speakers, goals):
    """("plan", steps) to the goals, as few as can be, or ("none", states): all that can be come to."""
    ends = [end for end, edition in speakers]
    ways = ways_from(talking_editions(book, face), ends.index(server), state_of(speakers))
    state = state_of(goals)
    if state not in ways:
        return "none", tuple(sorted(ways))
    steps = []
    while ways[state] is not None:
        state, at, edition = ways[state]
        steps.append((ends[at], edition))
    return "plan", tuple(steps[::-1])


def rolls_so(book, face, server, speakers, goals, paper):
    """Whether any thing is a paper that tells a plan, perhaps a longer one, or all states where there is none."""
    if not isinstance(paper, tuple) or len(paper) != 2 or not isinstance(paper[1], tuple):
        return False
    talking = talking_editions(book, face)
    ends = [end for end, edition in speakers]
    place = ends.index(server)
    if paper[0] == "plan":
        return leads_to(talking, place, ends, paper[1], state_of(speakers), state_of(goals))
    if paper[0] != "none" or not all([is_state(thing) for thing in paper[1]]):
        return False
    ways = ways_from(talking, place, state_of(speakers))
    return state_of(goals) not in ways and paper[1] == tuple(sorted(ways))


def state_of(speakers):
    """The state of ends that are told as (end, edition)."""
    return tuple([edition for end, edition in speakers])


def is_state(thing):
    """Whether any thing is a tuple of whole numbers."""
    return isinstance(thing, tuple) and all([is_whole(number) for number in thing])


def talking_editions(book, face):
    """For each edition of a face that may serve, those that talk with it."""
    faces = [other for other in book if other.name == face]
    return {server.edition: [one.edition for one in faces if talks(one, server)] for server in faces}


def do_talk(talking, place, state):
    """Whether all askers of a state talk with the server."""
    askers = state[:place] + state[place + 1:]
    return all([edition in talking[state[place]] for edition in askers])


def rolled(state, at, edition):
    """The state once the end at a place is rolled."""
    return state[:at] + (edition,) + state[at + 1:]


def ways_from(talking, place, start):
    """All states that can be come to, each with the (state, place, edition) that led there by the fewest steps."""
    ways = {start: None}
    states = [start]
    turn = 0
    while turn < len(states):
        state = states[turn]
        for at in range(len(state)):
            for edition in talking:
                after = rolled(state, at, edition)
                if after not in ways and do_talk(talking, place, after):
                    ways[after] = (state, at, edition)
                    states.append(after)
        turn += 1
    return ways


def leads_to(talking, place, ends, steps, start, goal):
    """Whether steps, a tuple of any things, lead from a state to another, and all talk behind each."""
    state = start
    for step in steps:
        if not is_step(talking, ends, step):
            return False
        at = ends.index(step[0])
        after = rolled(state, at, step[1])
        if after == state or not do_talk(talking, place, after):
            return False
        state = after
    return state == goal


def is_step(talking, ends, thing):
    """Whether any thing is an end with an edition of the book."""
    if not isinstance(thing, tuple) or len(thing) != 2:
        return False
    return thing[0] in ends and is_whole(thing[1]) and thing[1] in talking
