"""Lines: files and writes as texts of lines, and back.

Lines are read with tables of all lines that can be written at a place, so that nothing else can be read.
"""

from safepatch.errors import BadText
from safepatch.files import LETTER_SETS, MOST_BLOCKS, MOST_PRICE, File, check_file, file_state
from safepatch.states import all_orders, all_pieces, every_write, is_state_write, state_after
from safepatch.writes import check_writes

NOTHING = "-"


class Reader:
    """Takes the lines of a text one after the other; raises BadText at the first one that is not allowed."""

    def __init__(self, lines):
        if not isinstance(lines, str):
            raise BadText(0)
        cut = lines.split("\n")
        self.lines = cut[:-1]
        self.rest = cut[-1]
        self.row = 0

    def look(self, table):
        """Return what a table has for the next line, None if it has nothing or there is no line."""
        if self.row == len(self.lines):
            return None
        return table.get(self.lines[self.row])

    def take(self, table):
        """Return what a table has for the next line, and pass this line."""
        found = self.look(table)
        if found is None:
            raise BadText(self.row)
        self.row += 1
        return found

    def end(self):
        """Raise BadText if there is another line, or something that is not terminated."""
        if self.row < len(self.lines) or self.rest != "":
            raise BadText(self.row)


def file_text(file):
    """Return the text of the lines of a file."""
    check_file(file)
    lines = [letters_line(file.letters)]
    lines.extend([piece_line(piece) for piece in file.pieces])
    lines.append(order_line(file.order))
    lines.append(price_line("piece_price", file.piece_price))
    lines.append(price_line("order_price", file.order_price))
    lines.append(torn_line(file.torn))
    return terminated(lines)


def read_file(lines):
    """Return the File of which a text has the lines."""
    reader = Reader(lines)
    letters = reader.take({letters_line(choice): choice for choice in LETTER_SETS})
    choices = {piece_line(piece): piece for piece in all_pieces(letters)}
    pieces = [reader.take(choices)]
    while len(pieces) < MOST_BLOCKS and reader.look(choices) is not None:
        pieces.append(reader.take(choices))
    order = reader.take({order_line(choice): choice for choice in all_orders(len(pieces))})
    piece_price = reader.take(price_lines("piece_price"))
    order_price = reader.take(price_lines("order_price"))
    torn = reader.take({torn_line(choice): choice for choice in (False, True)})
    reader.end()
    return File(letters, tuple(pieces), order, piece_price=piece_price, order_price=order_price, torn=torn)


def writes_text(file, writes):
    """Return the text of the lines of some writes, one after the other."""
    check_file(file)
    check_writes(file, writes)
    return terminated([write_line(write) for write in writes])


def read_writes(file, lines):
    """Return the list of the writes, one after the other, of which a text has the lines."""
    check_file(file)
    reader = Reader(lines)
    choices = {write_line(write): write for write in every_write(file.letters, len(file))}
    state = file_state(file)
    writes = []
    while is_state_write(file.letters, state, reader.look(choices)):
        writes.append(reader.take(choices))
        state = state_after(state, writes[-1])
    reader.end()
    return writes


def terminated(lines):
    """Return the text of some lines, each terminated by a line feed."""
    return "".join([f"{line}\n" for line in lines])


def letters_line(letters):
    """Return the line of the letters of a file."""
    return f"letters {letters}"


def piece_line(piece):
    """Return the line of a piece of a file."""
    return f"piece {piece_word(piece)}"


def order_line(order):
    """Return the line of an order, of a file or as a write."""
    words = " ".join([str(block) for block in order])
    return f"order {words or NOTHING}"


def price_line(name, price):
    """Return the line of a price of a file."""
    return f"{name} {price}"


def price_lines(name):
    """Return the dict from the lines of all prices of a name to the prices."""
    return {price_line(name, price): price for price in range(1, MOST_PRICE + 1)}


def torn_line(torn):
    """Return the line that says whether the writes of a file can be torn."""
    return "torn yes" if torn else "torn no"


def write_line(write):
    """Return the line of a write."""
    if write[0] == "order":
        return order_line(write[1])
    return f"piece {write[1]} {piece_word(write[2])}"


def piece_word(piece):
    """Return the word for a piece."""
    return piece or NOTHING
