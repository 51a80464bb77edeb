"""Checks of the certificates that no plan, or none with fewer hops, leads to a goal."""

from everlit.goals import web_and_aim
from everlit.webs import HOPS


def shows_never(first, goal, value, *, routes=None, still=()):
    """Whether any value is a closed tuple of states."""
    web, aim = web_and_aim(first, goal, routes, still)
    if not are_states(web, value) or web.state_of(first) not in value:
        return False
    known = {state: True for state in value}
    for state in known:
        if aim.is_met(state):
            return False
        if not all([step[3] in known for step in web.steps(state)]):
            return False
    return True


def are_states(web, value):
    """Whether any value is a tuple of states of a web."""
    return isinstance(value, tuple) and all([state in web for state in value])


def shows_fewest(first, goal, value, *, routes=None, still=()):
    """Whether any value is a tuple of tuples of states between which steps lead on slowly enough."""
    web, aim = web_and_aim(first, goal, routes, still)
    if not isinstance(value, tuple) or not all([are_states(web, row) for row in value]):
        return False
    if value == () or web.state_of(first) not in value[0]:
        return False
    # What holds for the first of the tuples with a state holds for the others, too.
    ranks = {}
    for rank, row in enumerate(value):
        for state in row:
            ranks.setdefault(state, rank)
    for state in ranks:
        if aim.is_met(state) or not leads_on_slowly(web, state, ranks, len(value)):
            return False
    return True


def leads_on_slowly(web, state, ranks, beyond):
    """Whether each step from a state leads to a rank that is low enough.

    States in no tuple have the rank beyond, to which hops from the last tuple may lead.
    """
    for step in web.steps(state):
        most = ranks[state] + 1 if step[0] in HOPS else ranks[state]
        if ranks.get(step[3], beyond) > most:
            return False
    return True
