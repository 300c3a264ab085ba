"""Moves: the safe writes from any state of a file, with what they cost and lead to. Searches are built on these."""

from safepatch.states import ORDER_BLOCKS, all_orders, all_pieces, contents, put_content, torn_contents

# Stands in a text where the piece of a block is read; no letter is like it.
GAP = "*"


class Moves:
    """The safe writes of a file, from any of its states. What is the same for all states is worked out once."""

    def __init__(self, file):
        self.piece_choices = all_pieces(file.letters)
        self.order_choices = all_orders(len(file))
        self.piece_cost = file.piece_price
        self.order_cost = file.order_price
        self.least_price = min(file.piece_price, file.order_price)
        self.can_tear = file.torn

    def safe(self, state, texts):
        """Return the list of the safe writes from a state that change something, in the order of [3].

        Each is given as a write, its price, the state after it and the text that this state reads. `texts` are the
        text of the state and the new text.
        """
        pieces, order = state
        found = []
        for block, piece in enumerate(pieces):
            readings = self.piece_readings(state, block)
            for new in safe_contents(piece, readings, self.can_tear, texts):
                write = ("piece", block, new)
                found.append((write, self.piece_cost, put_content(state, write, new), readings[new]))
        readings = self.order_readings(state)
        for new in safe_contents(order, readings, self.can_tear, texts):
            found.append((("order", new), self.order_cost, (pieces, new), readings[new]))
        return found

    def piece_readings(self, state, block):
        """Return the dict from all pieces to the text that a state reads with this piece in a block."""
        pieces, order = state
        text = "".join([GAP if used == block else pieces[used] for used in order])
        return {new: text.replace(GAP, new) for new in self.piece_choices}

    def order_readings(self, state):
        """Return the dict from all orders to the text that the pieces of a state read in this order."""
        # Put together in the same way, orders and their texts come in the same order.
        return dict(zip(self.order_choices, contents("", list(state[0]), ORDER_BLOCKS)))


def safe_contents(old, readings, torn, texts):
    """Return the list of the contents that can be written safely over an old one and are not the same.

    `readings` has the texts that are read with all contents, among which is also what a torn write leaves.
    """
    found = [new for new, text in readings.items() if text in texts and new != old]
    if not torn:
        return found
    # The first reading of a torn write is that of the old content, which is one of the texts.
    return [new for new in found if all([readings[left] in texts for left in torn_contents(old, new)[1:]])]
