"""Tidying: the cheapest quiet writes from a file to another layout of it, or what shows that there are none."""

from safepatch.errors import BadLayout
from safepatch.files import are_pieces, check_file, file_state
from safepatch.moves import Moves
from safepatch.states import all_orders, is_order, state_text
from safepatch.ways import END, are_closed, are_floors, search
from safepatch.writes import after, cost_of, is_safe, is_write


class Tidying:
    """Quiet writes to a layout that cost least, and floors that show that none cost less."""

    def __init__(self, writes, floors):
        self.writes = writes
        self.floors = {state: floors[state] for state in floors}

    def __eq__(self, other):
        return isinstance(other, Tidying) and self.writes == other.writes and self.floors == other.floors

    def shows(self, file, layout):
        """Return whether the writes are a tidying to a layout, and the floors show that none costs less."""
        check_file(file)
        check_layout(file, layout)
        if not is_tidying(file, layout, self.writes):
            return False
        return are_floors(QuietGraph(file, layout), cost_of(file, self.writes), self.floors)


class NoTidying:
    """States that show that there is no tidying: no quiet write leads out of them, and the layout is none of them."""

    def __init__(self, states):
        self.states = list(states)

    def __eq__(self, other):
        return isinstance(other, NoTidying) and self.states == other.states

    def shows(self, file, layout):
        """Return whether the states show that there is no tidying to a layout."""
        check_file(file)
        check_layout(file, layout)
        return are_closed(QuietGraph(file, layout), self.states)


class QuietGraph:
    """The states of a file that read its text, up to a layout, with the quiet writes as steps between them."""

    def __init__(self, file, layout):
        self.moves = Moves(file)
        self.least_price = self.moves.least_price
        # A write is quiet if it is safe with this text as the old and as the new one.
        self.texts = (file.text,)
        self.layout = layout
        self.start = self.node(file_state(file))

    def node(self, state):
        """Return the node of a state: END for the layout."""
        return END if state == self.layout else state

    def is_open(self, state):
        """Return whether a state reads the text, and is not the layout."""
        return state != self.layout and state_text(state) in self.texts

    def steps(self, state):
        """Return the list of the steps from an open state."""
        quiet = self.moves.safe(state, self.texts)
        return [(write, price, self.node(left)) for write, price, left, _ in quiet]


def tidy(file, layout):
    """Return a Tidying of a file to a layout, or a NoTidying if there is none."""
    check_file(file)
    check_layout(file, layout)
    found = search(QuietGraph(file, layout))
    if found.least_cost() is None:
        return NoTidying(found.nodes())
    return Tidying(tuple([write for _, write in found.way()]), found.bounds())


def tidy_cost(file, layout):
    """Return the cost of the cheapest tidying of a file to a layout, None if there is none."""
    check_file(file)
    check_layout(file, layout)
    return search(QuietGraph(file, layout)).least_cost()


def orders_of_text(file):
    """Return the list of the orders in which the pieces of a file give its text, by their lengths, then as tuples."""
    check_file(file)
    return [order for order in all_orders(len(file)) if state_text((file.pieces, order)) == file.text]


def check_layout(file, layout):
    """Raise BadLayout if a layout argument is not a layout of the file."""
    if not is_layout(file, layout):
        raise BadLayout("not a layout of the file")


def is_layout(file, value):
    """Return whether a value is a layout of a file."""
    if not isinstance(value, tuple) or len(value) != 2:
        return False
    pieces, order = value
    if not are_pieces(file.letters, pieces) or len(pieces) != len(file) or not is_order(len(file), order):
        return False
    return state_text(value) == file.text


def is_tidying(file, layout, writes):
    """Return whether some writes, one after the other, are a tidying of a file to a layout."""
    text = file.text
    for write in writes:
        if not is_write(file, write) or not is_safe(file, write, text):
            return False
        file = after(file, write)
    return file_state(file) == layout
