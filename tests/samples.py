"""Values that several tests share, and a plain search of the tests' own, made without the functions that are tested."""

import doctest
import random
import unittest
from itertools import product

from safepatch.files import File

# What is never a File, a write, a text or a list or tuple; some cannot be compared with `in` or hashed.
OTHER_KINDS = [None, True, False, 0, 1, -1, b"ab", {}, {"a": 1}, {1, 2}, object(), File, range(2)]

# The parameters of files that together have all edges of [2].
PARAMETERS = [
    ("ab", ("",), (), {}),
    ("ab", ("ab",), (0,), {"torn": True}),
    ("ab", ("a",), (0, 0, 0), {"piece_price": 5, "torn": True}),
    ("abc", ("ca",), (0, 0), {"order_price": 5, "torn": True}),
    ("ab", ("a", "b"), (0, 1), {"torn": True}),
    ("ab", ("a", "b"), (1, 0, 1), {"piece_price": 2, "order_price": 3}),
    ("abc", ("", "cc"), (), {"torn": True}),
    ("ab", ("ab", "b", ""), (0, 1), {"piece_price": 2, "torn": True}),
    ("abc", ("a", "bc", "a"), (2, 1), {"torn": True, "order_price": 4}),
    ("abc", ("a", "b", "c"), (0, 1, 2), {}),
    ("ab", ("a", "", "ba", "b"), (2,), {"torn": True}),
    ("abc", ("aa", "bb", "cc", ""), (1, 1, 3), {"torn": True, "piece_price": 5, "order_price": 5}),
    ("abc", ("c", "ab", "", "c"), (3, 2, 0), {"torn": False}),
    ("ab", ("", "", "", ""), (0, 1, 2), {"torn": True}),
]


FILE = File("ab", ("ab", "b", ""), (0, 1), piece_price=2, order_price=5, torn=True)

# What is not a write of FILE that changes something.
NOT_WRITES = [
    *OTHER_KINDS,
    "",
    "piece",
    "or",
    "abc",
    (),
    [],
    ("piece",),
    ("order",),
    ("piece", 0),
    ("piece", "a"),
    ("piece", 0, "a", "b"),
    ("order", (0,), (1,)),
    ("order", 0, "a"),
    ("order", 0),
    ["piece", 0, "a"],
    ["order", (0,)],
    ("Piece", 0, "a"),
    ("ORDER", (0,)),
    ("pieces", 0, "a"),
    (b"piece", 0, "a"),
    (b"order", (0,)),
    (None, 0, "a"),
    (0, 0, "a"),
    (["piece"], 0, "a"),
    ({}, (0,)),
    (True, (0,)),
    ("piece", 3, "a"),
    ("piece", -1, "a"),
    ("piece", 10**30, "a"),
    ("piece", True, "a"),
    ("piece", False, "a"),
    ("piece", "0", "a"),
    ("piece", None, "a"),
    ("piece", (0,), "a"),
    ("piece", [0], "a"),
    ("piece", {}, "a"),
    ("piece", 0, "aaa"),
    ("piece", 0, "c"),
    ("piece", 0, "A"),
    ("piece", 0, "a "),
    ("piece", 0, "-"),
    ("piece", 0, None),
    ("piece", 0, b"a"),
    ("piece", 0, 0),
    ("piece", 0, True),
    ("piece", 0, ("a",)),
    ("piece", 0, ["a"]),
    ("order", [0]),
    ("order", []),
    ("order", "0"),
    ("order", ""),
    ("order", None),
    ("order", (0, 0, 0, 0)),
    ("order", (3,)),
    ("order", (0, -1)),
    ("order", (True,)),
    ("order", (False,)),
    ("order", (1, False)),
    ("order", ("0",)),
    ("order", (None,)),
    ("order", ((0,),)),
    ("order", ([0],)),
    ("order", ({},)),
    # These change nothing.
    ("piece", 0, "ab"),
    ("piece", 1, "b"),
    ("piece", 2, ""),
    ("order", (0, 1)),
]
NOT_TEXTS = [*OTHER_KINDS, "c", "abc", "A", " ", "a\n", "-", "aaaaaaa", "abababa", b"", ("a",), ["a", "b"], ()]
NOT_FILES = [*OTHER_KINDS, "ab", (("ab", "b", ""), (0, 1)), [FILE], (FILE,)]


class Alike:
    """What claims to be equal to everything."""

    def __eq__(self, other):
        return True


class Case(unittest.TestCase):
    """What several tests assert."""

    def assert_refused(self, error, function, *arguments):
        """Assert that a call raises this error and no subclass, and changes nothing; return what is raised."""
        files = [FILE] + [value for value in arguments if isinstance(value, File)]
        before = [parts(file) for file in files], repr(arguments)
        with self.assertRaises(error) as caught:
            function(*arguments)
        self.assertIs(caught.exception.__class__, error)
        self.assertEqual(([parts(file) for file in files], repr(arguments)), before)
        return caught.exception

    def assert_example(self, text, many):
        """Assert that an example of the interface, with so many inputs, is right."""
        example = doctest.DocTestParser().get_doctest(text, {}, "example", None, None)
        self.assertEqual(len(example.examples), many)
        self.assertEqual(doctest.DocTestRunner().run(example).failed, 0)


def sample_files():
    """Return new files with all of the parameters."""
    return [File(letters, pieces, order, **more) for letters, pieces, order, more in PARAMETERS]


def words(letters, most):
    """Return all strings of at most so many of the letters, by length, then as strings."""
    return ["".join(chosen) for size in range(most + 1) for chosen in product(letters, repeat=size)]


def plain_text(pieces, order):
    """Return the text of pieces in an order."""
    text = ""
    for block in order:
        text += pieces[block]
    return text


def plain_writes(file):
    """Return all writes that change something, in order, from [3] alone."""
    found = [("piece", block, piece) for block in range(len(file.pieces)) for piece in words(file.letters, 2)]
    blocks = range(len(file.pieces))
    found += [("order", order) for size in range(4) for order in product(blocks, repeat=size)]
    standing = [("piece", block, piece) for block, piece in enumerate(file.pieces)] + [("order", file.order)]
    return [write for write in found if write not in standing]


def plain_after(pieces, order, write):
    """Return the pieces and the order after a write."""
    if write[0] == "order":
        return pieces, write[1]
    changed = list(pieces)
    changed[write[1]] = write[2]
    return tuple(changed), order


def plain_readings(file, write):
    """Return the readings of a write, from [4] alone."""
    return state_readings(file.pieces, file.order, write, file.torn)


def state_readings(pieces, order, write, torn):
    """Return the readings of a write in a state."""
    new = write[-1]
    old = order if write[0] == "order" else pieces[write[1]]
    left = [new[:n] + old[n:] for n in range(len(new))] if torn else [old]
    return [plain_text(*plain_after(pieces, order, (*write[:-1], one))) for one in [*left, new]]


def near_texts(file):
    """Return texts for a file: its own, some that a write leads to, and some that have nothing to do with it."""
    reached = [plain_text(*plain_after(file.pieces, file.order, write)) for write in plain_writes(file)[::5]]
    return sorted({plain_text(file.pieces, file.order), "", "a", "ba", "ababab", *reached})


def parts(file):
    """Return all that a file shows, to see later that it has not changed."""
    return [
        file.letters,
        file.pieces,
        file.order,
        file.piece_price,
        file.order_price,
        file.torn,
        file.text,
        file.used(),
        file.spare(),
        len(file),
    ]


def file_like(file, state):
    """Return the file that has a state, and otherwise all of a file."""
    more = {"piece_price": file.piece_price, "order_price": file.order_price, "torn": file.torn}
    return File(file.letters, *state, **more)


class Plain:
    """What [5] to [9] say of a file, worked out write by write and reading by reading. A plan is a tour to one text.

    Spots that cannot be gone on from are kept as they are, so that a goal is each spot at the last stage.
    """

    def __init__(self, file):
        self.file = file
        self.start = (0, (file.pieces, file.order))
        self.known = {}
        self.read = {}

    def moves(self, state):
        """Return all writes from a state, each with its price, the state after it and the text of this."""
        if state not in self.known:
            prices = {"piece": self.file.piece_price, "order": self.file.order_price}
            after = [(write, plain_after(*state, write)) for write in plain_writes(file_like(self.file, state))]
            self.known[state] = [(write, prices[write[0]], left, plain_text(*left)) for write, left in after]
        return self.known[state]

    def is_safe(self, state, write, old, new):
        """Return whether all readings of a write are one of two texts."""
        if (state, write) not in self.read:
            self.read[state, write] = set(state_readings(*state, write, self.file.torn))
        return self.read[state, write] <= {old, new}

    def is_open(self, spot, texts):
        """Return whether a spot is open; with the text of the file as the only one, none is."""
        stage, state = spot
        passed = [self.file.text, *texts]
        return stage in range(len(texts)) and plain_text(*state) == passed[stage] != passed[stage + 1]

    def steps(self, spot, texts):
        """Return the steps from an open spot: writes, prices and spots."""
        stage, state = spot
        old, new = [self.file.text, *texts][stage:stage + 2]
        return [
            (write, price, (stage + (text == new), after))
            for write, price, after, text in self.moves(state)
            if text in (old, new) and self.is_safe(state, write, old, new)
        ]

    def search(self, texts, limit=2000, forbidden=None):
        """Try one cost after the other: return the least one, None or "large", and what the spots that count cost."""
        if list(texts) == [self.file.text]:
            return 0, {}
        costs, cost = {self.start: 0}, 0
        while any(at >= cost for at in costs.values()):
            here = [spot for spot, at in costs.items() if at == cost]
            if any(stage == len(texts) for stage, _ in here):
                return cost, {spot: at for spot, at in costs.items() if at < cost}
            count = {spot: at for spot, at in costs.items() if at <= cost and spot[0] < len(texts)}
            if len(count) > limit:
                return "large", count
            for spot in here:
                for write, price, after in self.steps(spot, texts):
                    if write != forbidden:
                        costs[after] = min(costs.get(after, cost + price), cost + price)
            cost += 1
        return None, costs

    def change_end(self, state, text, writes):
        """Return the state after a change to a text, None if the writes are no change."""
        old = plain_text(*state)
        for at, write in enumerate(writes):
            found = [after for one, _, after, _ in self.moves(state) if one == write]
            if old == text or not found or not self.is_safe(state, write, old, text):
                return None
            state = found[0]
            if plain_text(*state) != (text if at + 1 == len(writes) else old):
                return None
        return state if plain_text(*state) == text else None

    def cost_of(self, parts):
        """Return the sum of the prices of the writes in some parts."""
        prices = {"piece": self.file.piece_price, "order": self.file.order_price}
        return sum(prices[write[0]] for part in parts for write in part)

    def is_tour(self, texts, parts):
        """Return whether parts are a tour; for the text of the file alone, whether the part is empty."""
        state = self.start[1]
        for text, part in zip(texts, parts):
            state = state and self.change_end(state, text, part)
        return state is not None and len(parts) == len(texts)

    def shows(self, texts, parts, floors):
        """Return whether parts and floors are as in [9], or [7] for one text."""
        if not self.is_tour(texts, parts):
            return False
        cost = self.cost_of(parts)
        if cost > 0 and not (self.start in floors and floors[self.start] >= cost):
            return False
        high = [spot for spot in floors if floors[spot] > 0]
        if not all(self.is_open(spot, texts) for spot in high):
            return False
        needed = [(after, floors[spot] - price) for spot in high for _, price, after in self.steps(spot, texts)]
        return all(floor <= 0 or (after in floors and floors[after] >= floor) for after, floor in needed)

    def shows_none(self, texts, spots):
        """Return whether spots are as in [9], or [7] for one text."""
        given = set(spots)
        if self.start not in given or not all(self.is_open(spot, texts) for spot in given):
            return False
        return all(after in given for spot in given for _, _, after in self.steps(spot, texts))


def random_file(chance, letters, blocks):
    """Return a file with parameters by chance."""
    pieces = tuple(chance.choice(words(letters, 2)) for _ in range(blocks))
    order = tuple(chance.randrange(blocks) for _ in range(chance.randrange(4)))
    prices = {"piece_price": chance.randint(1, 5), "order_price": chance.randint(1, 5)}
    return File(letters, pieces, order, **prices, torn=chance.random() < 0.6)


def random_files(seed, kinds):
    """Return files by chance: for each pair of letters and blocks as many as asked."""
    chance = random.Random(seed)
    return [random_file(chance, letters, blocks) for (letters, blocks), many in kinds.items() for _ in range(many)]


def random_text(chance, file):
    """Return a text by chance: one that a write leads to, or any one."""
    if chance.random() < 0.6:
        return plain_text(*plain_after(file.pieces, file.order, chance.choice(plain_writes(file))))
    return "".join(chance.choice(file.letters) for _ in range(chance.randrange(7)))
