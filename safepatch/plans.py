"""Plans: the cheapest change of a file to a new text, or what shows that there is none."""

from safepatch.errors import NoChange
from safepatch.files import check_file, check_goal, file_state
from safepatch.moves import Moves
from safepatch.states import every_write, state_text
from safepatch.ways import END, are_closed, are_floors, search
from safepatch.writes import after, check_writes, cost_of, is_safe, is_write


class Plan:
    """A change that costs least, and floors that show that none costs less."""

    def __init__(self, writes, floors):
        self.writes = writes
        self.floors = {state: floors[state] for state in floors}

    def __eq__(self, other):
        return isinstance(other, Plan) and self.writes == other.writes and self.floors == other.floors

    def shows(self, file, text):
        """Return whether the writes are a change to a text, and the floors show that none costs less."""
        check_file(file)
        check_goal(file, text)
        if changed_file(file, text, self.writes) is None:
            return False
        return are_floors(ChangeGraph(file, text), cost_of(file, self.writes), self.floors)


class NoPlan:
    """States that show that there is no change: they read the old text, and no safe write leads out of them."""

    def __init__(self, states):
        self.states = list(states)

    def __eq__(self, other):
        return isinstance(other, NoPlan) and self.states == other.states

    def shows(self, file, text):
        """Return whether the states show that there is no change to a text."""
        check_file(file)
        check_goal(file, text)
        return are_closed(ChangeGraph(file, text), self.states)


class ChangeGraph:
    """The states that changes of a file to a text pass, with the safe writes as steps between them."""

    def __init__(self, file, text):
        self.moves = Moves(file)
        self.least_price = self.moves.least_price
        self.texts = (file.text, text)
        self.start = END if text == file.text else file_state(file)

    def is_open(self, state):
        """Return whether a state reads the old text, which is not the new one."""
        old, new = self.texts
        return old != new and state_text(state) == old

    def steps(self, state):
        """Return the list of the steps from an open state."""
        old = self.texts[0]
        return [
            (write, price, left if text == old else END)
            for write, price, left, text in self.moves.safe(state, self.texts)
        ]


def plan(file, text):
    """Return a Plan for a change of a file to a text, or a NoPlan if there is no change."""
    check_file(file)
    check_goal(file, text)
    found = search(ChangeGraph(file, text))
    if found.least_cost() is None:
        return NoPlan(found.nodes())
    return Plan(tuple([write for _, write in found.way()]), found.bounds())


def least_cost(file, text):
    """Return the cost of the cheapest change of a file to a text, None if there is no change."""
    check_file(file)
    check_goal(file, text)
    return search(ChangeGraph(file, text)).least_cost()


def can_change(file, text):
    """Return whether there is a change of a file to a text."""
    return least_cost(file, text) is not None


def musts(file, text):
    """Return the list of the writes that are in each cheapest change of a file to a text, in the order of [3]."""
    check_file(file)
    check_goal(file, text)
    graph = ChangeGraph(file, text)
    found = search(graph)
    if found.least_cost() is None:
        raise NoChange("no change of the file to the text")
    common = common_writes(graph, found)
    return [write for write in every_write(file.letters, len(file)) if write in common]


def is_change(file, text, writes):
    """Return whether some writes, one after the other, are a change of a file to a text."""
    check_file(file)
    check_goal(file, text)
    check_writes(file, writes)
    return changed_file(file, text, writes) is not None


def changed_file(file, text, writes):
    """Return the File after a change of a file to a text, None if the writes are no such change."""
    if text == file.text:
        return None if writes else file
    for write in writes:
        if file.text == text or not is_write(file, write) or not is_safe(file, write, text):
            return None
        file = after(file, write)
    return file if file.text == text else None


def common_writes(graph, found):
    """Return the list of the writes that are on each cheapest way that a search through a graph has found."""
    common = {graph.start: []}
    # By cost, so that what all ways to a state have in common is known before the steps from it are taken.
    for cost, state in sorted([(found.costs[node], node) for node in found.bounds()]):
        for write, price, follower in graph.steps(state):
            if found.costs.get(follower) == cost + price:
                passed = common[state] + [write]
                common[follower] = [earlier for earlier in common.get(follower, passed) if earlier in passed]
    return common[END]
