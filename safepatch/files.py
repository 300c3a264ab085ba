"""Files: pieces of text in blocks, and an order of blocks that gives the text."""

from safepatch.errors import BadFile, BadGoal
from safepatch.states import is_number, is_order, is_piece, is_text, state_text

LETTER_SETS = ("ab", "abc")
MOST_BLOCKS = 4
MOST_PRICE = 5


class File:
    """A file of blocks. It never changes: a write gives another File."""

    def __init__(self, letters, pieces, order, *, piece_price=1, order_price=1, torn=False):
        # The order of the tests is promised: each one relies on what those above it have let through.
        if not is_letters(letters):
            raise BadFile("LETTERS")
        if not are_pieces(letters, pieces):
            raise BadFile("PIECES")
        if not is_order(len(pieces), order):
            raise BadFile("ORDER")
        if not is_price(piece_price):
            raise BadFile("PIECE_PRICE")
        if not is_price(order_price):
            raise BadFile("ORDER_PRICE")
        if not isinstance(torn, bool):
            raise BadFile("TORN")
        self._letters = letters
        self._pieces = pieces
        self._order = order
        self._piece_price = piece_price
        self._order_price = order_price
        self._torn = torn

    @property
    def letters(self):
        """The letters, "ab" or "abc"."""
        return self._letters

    @property
    def pieces(self):
        """The tuple of the pieces of all blocks."""
        return self._pieces

    @property
    def order(self):
        """The tuple of the blocks that give the text."""
        return self._order

    @property
    def piece_price(self):
        """What it costs to write a piece."""
        return self._piece_price

    @property
    def order_price(self):
        """What it costs to write the order."""
        return self._order_price

    @property
    def torn(self):
        """Whether writes can be torn."""
        return self._torn

    @property
    def text(self):
        """The pieces of the blocks in the order, one after the other."""
        return state_text((self._pieces, self._order))

    def used(self):
        """Return the ascending list of the blocks that are in the order."""
        return [block for block in range(len(self._pieces)) if block in self._order]

    def spare(self):
        """Return the ascending list of the blocks that are not in the order."""
        return [block for block in range(len(self._pieces)) if block not in self._order]

    def __len__(self):
        return len(self._pieces)

    def __eq__(self, other):
        return (
            isinstance(other, File)
            and self._letters == other._letters
            and self._pieces == other._pieces
            and self._order == other._order
            and self._piece_price == other._piece_price
            and self._order_price == other._order_price
            and self._torn == other._torn
        )


def is_letters(value):
    """Return whether a value is one of the two sets of letters."""
    return isinstance(value, str) and value in LETTER_SETS


def are_pieces(letters, value):
    """Return whether a value is a tuple of one to four pieces of these letters."""
    if not isinstance(value, tuple) or not 1 <= len(value) <= MOST_BLOCKS:
        return False
    return all([is_piece(letters, piece) for piece in value])


def is_price(value):
    """Return whether a value is a price."""
    return is_number(value) and 1 <= value <= MOST_PRICE


def check_file(file):
    """Raise BadFile if a file argument is not a File."""
    if not isinstance(file, File):
        raise BadFile(None)


def check_goal(file, text):
    """Raise BadGoal if a text argument is not a text for the file."""
    if not is_text(file.letters, text):
        raise BadGoal("not a text for the file")


def file_state(file):
    """Return the state of a file."""
    return (file.pieces, file.order)


def file_at(file, state):
    """Return the File that has a state, and otherwise all of a file."""
    pieces, order = state
    return File(
        file.letters,
        pieces,
        order,
        piece_price=file.piece_price,
        order_price=file.order_price,
        torn=file.torn,
    )
