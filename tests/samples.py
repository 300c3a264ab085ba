"""Values that several tests share, made without the functions that are tested."""

from itertools import product

from safepatch.files import File

# What is never a File, a write, a text or a list or tuple; some cannot be compared with `in` or hashed.
OTHER_KINDS = [None, True, False, 0, 1, -1, b"ab", {}, {"a": 1}, {1, 2}, object(), File, range(2)]

# The parameters of files that together have all edges of [2].
PARAMETERS = [
    ("ab", ("",), (), {}),
    ("ab", ("ab",), (0,), {"torn": True}),
    ("ab", ("a",), (0, 0, 0), {"piece_price": 5, "torn": True}),
    ("abc", ("ca",), (0, 0), {"order_price": 5, "torn": True}),
    ("ab", ("a", "b"), (0, 1), {"torn": True}),
    ("ab", ("a", "b"), (1, 0, 1), {"piece_price": 2, "order_price": 3}),
    ("abc", ("", "cc"), (), {"torn": True}),
    ("ab", ("ab", "b", ""), (0, 1), {"piece_price": 2, "torn": True}),
    ("abc", ("a", "bc", "a"), (2, 1), {"torn": True, "order_price": 4}),
    ("abc", ("a", "b", "c"), (0, 1, 2), {}),
    ("ab", ("a", "", "ba", "b"), (2,), {"torn": True}),
    ("abc", ("aa", "bb", "cc", ""), (1, 1, 3), {"torn": True, "piece_price": 5, "order_price": 5}),
    ("abc", ("c", "ab", "", "c"), (3, 2, 0), {"torn": False}),
    ("ab", ("", "", "", ""), (0, 1, 2), {"torn": True}),
]


def sample_files():
    """Return new files with all of the parameters."""
    return [File(letters, pieces, order, **more) for letters, pieces, order, more in PARAMETERS]


def words(letters, most):
    """Return all strings of at most so many of the letters, by length, then as strings."""
    return ["".join(chosen) for size in range(most + 1) for chosen in product(letters, repeat=size)]


def plain_text(pieces, order):
    """Return the text of pieces in an order."""
    text = ""
    for block in order:
        text += pieces[block]
    return text


def plain_writes(file):
    """Return all writes that change something, in order, from [3] alone."""
    found = [("piece", block, piece) for block in range(len(file.pieces)) for piece in words(file.letters, 2)]
    blocks = range(len(file.pieces))
    found += [("order", order) for size in range(4) for order in product(blocks, repeat=size)]
    standing = [("piece", block, piece) for block, piece in enumerate(file.pieces)] + [("order", file.order)]
    return [write for write in found if write not in standing]


def plain_after(pieces, order, write):
    """Return the pieces and the order after a write."""
    if write[0] == "order":
        return pieces, write[1]
    changed = list(pieces)
    changed[write[1]] = write[2]
    return tuple(changed), order


def plain_readings(file, write):
    """Return the readings of a write, from [4] alone."""
    new = write[-1]
    old = file.order if write[0] == "order" else file.pieces[write[1]]
    left = [new[:n] + old[n:] for n in range(len(new))] if file.torn else [old]
    return [plain_text(*plain_after(file.pieces, file.order, write[:-1] + (one,))) for one in left + [new]]


def near_texts(file):
    """Return texts for a file: its own, some that a write leads to, and some that have nothing to do with it."""
    reached = [plain_text(*plain_after(file.pieces, file.order, write)) for write in plain_writes(file)[::5]]
    return sorted({plain_text(file.pieces, file.order), "", "a", "ba", "ababab", *reached})


def parts(file):
    """Return all that a file shows, to see later that it has not changed."""
    return [
        file.letters,
        file.pieces,
        file.order,
        file.piece_price,
        file.order_price,
        file.torn,
        file.text,
        file.used(),
        file.spare(),
        len(file),
    ]
