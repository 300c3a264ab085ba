"""Writes: which there are, what they leave and cost, what can be read if they are torn, and which are safe."""

from safepatch.errors import BadWrite, BadWrites
from safepatch.files import check_file, check_goal, file_at, file_state
from safepatch.moves import Moves
from safepatch.states import is_safe_write, is_state_write, state_after, state_readings, state_writes


def all_writes(file):
    """Return the list of all writes that change something, in the order of [3]."""
    check_file(file)
    return state_writes(file.letters, file_state(file))


def is_write(file, value):
    """Return whether a value, of any kind, is a write that changes something."""
    check_file(file)
    return is_state_write(file.letters, file_state(file), value)


def after(file, write):
    """Return the File after a write."""
    check_file(file)
    check_write(file, write)
    return file_at(file, state_after(file_state(file), write))


def torn_texts(file, write):
    """Return the list of the readings of a write."""
    check_file(file)
    check_write(file, write)
    return state_readings(file_state(file), write, file.torn)


def is_safe(file, write, text):
    """Return whether a write is safe, for a new text."""
    check_file(file)
    check_goal(file, text)
    check_write(file, write)
    return is_safe_write(file_state(file), write, file.torn, text)


def safe_writes(file, text):
    """Return the list of the safe writes that change something, in the order of [3]."""
    check_file(file)
    check_goal(file, text)
    return [move[0] for move in Moves(file).safe(file_state(file), (file.text, text))]


def apply(file, writes):
    """Return the File after some writes, one after the other, safe or not."""
    check_file(file)
    return file_at(file, passed_states(file, writes)[-1])


def cost_of(file, writes):
    """Return the sum of the prices of some writes, one after the other, safe or not."""
    check_file(file)
    check_writes(file, writes)
    return sum([price_of(file, write) for write in writes])


def check_write(file, write):
    """Raise BadWrite if a write argument is not a write of the file that changes something."""
    if not is_state_write(file.letters, file_state(file), write):
        raise BadWrite("not a write of the file that changes something")


def check_writes(file, writes):
    """Raise BadWrites if some writes cannot be done one after the other."""
    passed_states(file, writes)


def passed_states(file, writes):
    """Return the list of the state of a file and those after each of some writes; raise BadWrites as `apply`."""
    if not isinstance(writes, (list, tuple)):
        raise BadWrites(None)
    states = [file_state(file)]
    for index, write in enumerate(writes):
        if not is_state_write(file.letters, states[-1], write):
            raise BadWrites(index)
        states.append(state_after(states[-1], write))
    return states


def price_of(file, write):
    """Return the price of a write."""
    if write[0] == "order":
        return file.order_price
    return file.piece_price
