"""Contents, states and writes as plain values. The other files of the package are built on these.

A content is a piece (a string) or an order (a tuple); a state is the pair of a tuple of pieces and an order.
The functions take what the callers have checked; only those that begin with `is_` take values of any kind.
"""

PIECE_LETTERS = 2
ORDER_BLOCKS = 3
TEXT_LETTERS = 6


def is_number(value):
    """Return whether a value is an integer, which True and False are not."""
    return isinstance(value, int) and not isinstance(value, bool)


def is_word(letters, most, value):
    """Return whether a value is a string of at most so many of the letters."""
    return isinstance(value, str) and len(value) <= most and all([letter in letters for letter in value])


def is_piece(letters, value):
    """Return whether a value is a piece of these letters."""
    return is_word(letters, PIECE_LETTERS, value)


def is_text(letters, value):
    """Return whether a value is a text of these letters."""
    return is_word(letters, TEXT_LETTERS, value)


def is_block(blocks, value):
    """Return whether a value is the number of one of so many blocks."""
    return is_number(value) and 0 <= value < blocks


def is_order(blocks, value):
    """Return whether a value is an order of so many blocks."""
    if not isinstance(value, tuple) or len(value) > ORDER_BLOCKS:
        return False
    return all([is_block(blocks, block) for block in value])


def is_state_write(letters, state, value):
    """Return whether a value is a write that changes something in a state."""
    pieces, order = state
    if not isinstance(value, tuple) or len(value) not in (2, 3) or not isinstance(value[0], str):
        return False
    if len(value) == 2:
        return value[0] == "order" and is_order(len(pieces), value[1]) and value[1] != order
    if value[0] != "piece" or not is_block(len(pieces), value[1]):
        return False
    return is_piece(letters, value[2]) and value[2] != pieces[value[1]]


def contents(empty, items, most):
    """Return all contents of at most so many items, by their lengths, then in the order of the items."""
    found = [empty]
    longest = [empty]
    for _ in range(most):
        longest = [content + item for content in longest for item in items]
        found.extend(longest)
    return found


def all_pieces(letters):
    """Return the list of all pieces, by their lengths, then as strings."""
    return contents("", list(letters), PIECE_LETTERS)


def all_orders(blocks):
    """Return the list of all orders of so many blocks, by their lengths, then as tuples."""
    return contents((), [(block,) for block in range(blocks)], ORDER_BLOCKS)


def every_write(letters, blocks):
    """Return the list of all writes, also those that may change nothing, in the order of [3]."""
    choices = all_pieces(letters)
    found = [("piece", block, new) for block in range(blocks) for new in choices]
    found.extend([("order", new) for new in all_orders(blocks)])
    return found


def state_writes(letters, state):
    """Return the list of all writes that change something in a state, in the order of [3]."""
    return [write for write in every_write(letters, len(state[0])) if write[-1] != old_content(state, write)]


def state_text(state):
    """Return the text that a state reads."""
    pieces, order = state
    return "".join([pieces[block] for block in order])


def old_content(state, write):
    """Return the content that a write replaces."""
    pieces, order = state
    if write[0] == "order":
        return order
    return pieces[write[1]]


def put_content(state, write, content):
    """Return the state in which a content stands where a write would put its own."""
    pieces, order = state
    if write[0] == "order":
        return (pieces, content)
    block = write[1]
    return (pieces[:block] + (content,) + pieces[block + 1:], order)


def state_after(state, write):
    """Return the state after a write."""
    return put_content(state, write, write[-1])


def torn_contents(old, new):
    """Return the list of the contents that a torn write of a new one over an old one can leave, in order."""
    return [new[:count] + old[count:] for count in range(len(new))]


def torn_states(state, write):
    """Return the list of the states that a write can leave if it is torn, in the order of [4]."""
    left = torn_contents(old_content(state, write), write[-1])
    return [put_content(state, write, content) for content in left]


def state_readings(state, write, torn):
    """Return the list of the readings of a write, which can be torn or not."""
    if torn:
        texts = [state_text(left) for left in torn_states(state, write)]
    else:
        texts = [state_text(state)]
    texts.append(state_text(state_after(state, write)))
    return texts


def is_safe_write(state, write, torn, text):
    """Return whether all readings of a write are the text of the state or another one."""
    allowed = (state_text(state), text)
    return all([reading in allowed for reading in state_readings(state, write, torn)])
