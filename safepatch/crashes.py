"""Crashes: what a failure of power in a change can leave, and what it costs to go on from there, or back."""

from safepatch.errors import BadWrites
from safepatch.files import check_file, check_goal, file_at
from safepatch.plans import changed_file, least_cost
from safepatch.states import torn_states
from safepatch.writes import passed_states


def crashes(file, text, writes):
    """Return the list of the states that a failure of power in a change can leave, in the order of [11]."""
    check_file(file)
    check_goal(file, text)
    states = passed_states(file, writes)
    if changed_file(file, text, writes) is None:
        raise BadWrites(len(writes))
    found = states[:1]
    for state, write, reached in zip(states, writes, states[1:]):
        if file.torn:
            found.extend(torn_states(state, write))
        found.append(reached)
    # Each once, where it comes first.
    return list({state: True for state in found})


def forward(file, text, writes):
    """Return the dict from the states that are left to what the cheapest changes from them to the new text cost."""
    return costs_to(file, crashes(file, text, writes), text)


def backward(file, text, writes):
    """Return the dict from the states that are left to what the cheapest changes from them to the old text cost."""
    return costs_to(file, crashes(file, text, writes), file.text)


def worst(file, text, writes):
    """Return the pair of the state from which going on costs most, the first one of several, and this cost.

    It is the first state from which it is not possible, and None, if there is one.
    """
    costs = list(forward(file, text, writes).items())
    for state, cost in costs:
        if cost is None:
            return (state, None)
    return max(costs, key=lambda pair: pair[1])


def costs_to(file, states, text):
    """Return the dict from some states of a file to what the cheapest changes from them to a text cost."""
    return {state: least_cost(file_at(file, state), text) for state in states}
