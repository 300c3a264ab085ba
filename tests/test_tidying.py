"""Tests of safepatch.tidying: tidyings, their floors, and closed lists of states ([10])."""

import random
import unittest
from functools import lru_cache
from itertools import product
from unittest.mock import patch

from safepatch.errors import BadFile, BadLayout, TooLarge
from safepatch.files import File
from safepatch.moves import Moves
from safepatch.plans import NoPlan, Plan
from safepatch.tidying import NoTidying, Tidying, orders_of_text, tidy, tidy_cost
from safepatch.tours import NoTour, Tour
from safepatch.writes import after, apply, cost_of, torn_texts
from tests.samples import (
    NOT_FILES,
    OTHER_KINDS,
    Alike,
    Case,
    Plain,
    file_like,
    parts,
    plain_readings,
    plain_text,
    random_files,
    sample_files,
    words,
)

# The example of the interface, as it stands there.
EXAMPLE = """
>>> from safepatch.files import File
>>> from safepatch.tidying import NoTidying, Tidying, orders_of_text, tidy, tidy_cost
>>> file = File('ab', ('a', 'b', ''), (0, 1), torn=True)
>>> goal, tight = (('ab', 'b', ''), (0,)), File('ab', ('a', 'b'), (0, 1), torn=True)
>>> found = Tidying((('piece', 2, 'ab'), ('order', (2,)), ('piece', 0, 'ab'), ('order', (0,)), ('piece', 2, '')), {})
>>> [tidy_cost(file, goal), found.shows(file, goal), tidy(file, goal).shows(file, goal), NoTidying([(('a', 'b'), (0, 1))]).shows(tight, (('b', 'a'), (1, 0))), orders_of_text(File('ab', ('ab', '', 'a', 'b'), (0,)))[:4]]
[5, False, True, True, [(0,), (0, 1), (1, 0), (2, 3)]]
"""

LIMIT = "safepatch.ways.MOST_NODES"
KINDS = {("ab", 1): 12, ("ab", 2): 28, ("ab", 3): 12, ("abc", 1): 6, ("abc", 2): 12, ("abc", 3): 2, ("ab", 4): 1}
TORN = File("ab", ("a", "b", ""), (0, 1), torn=True)
STATE = (("a", "b", ""), (0, 1))
GOAL = (("ab", "b", ""), (0,))
WAY = (("piece", 2, "ab"), ("order", (2,)), ("piece", 0, "ab"), ("order", (0,)), ("piece", 2, ""))
TIGHT = File("ab", ("a", "b"), (0, 1), torn=True)
TIGHT_STATE = (("a", "b"), (0, 1))
TIGHT_GOAL = (("b", "a"), (1, 0))
# A file whose text can be spread over other blocks, but too many states read it.
VAST = File("abc", ("ab", "c", "", ""), (0, 1), torn=True)
VAST_GOAL = (("c", "ab", "", ""), (1, 0))
# Files of the letters "abc" (pieces, order, both prices, tearing) and layouts at, below and beyond the limit: how many
# states count, and what a tidying would cost.
STATES = [
    (("", "b", "", "ba"), (3, 2, 1), 4, 3, True, (("", "ba", "b", "b"), (1, 3)), 1999, 24),
    (("ba", "ac", "cc", "ac"), (1, 3, 2), 3, 4, False, (("ba", "cc", "ac", "cc"), (2, 2, 3)), 2000, 21),
    (("b", "ac", "bb", "bb"), (0, 2), 3, 5, False, (("b", "c", "bc", "cb"), (0, 0, 0)), 2000, 14),
    (("", "c", "cc", "b"), (3, 1), 3, 2, True, (("", "cc", "bc", "ab"), (2, 0, 0)), 2001, 13),
    (("c", "a", "ba", ""), (1, 0), 5, 1, True, (("ac", "ca", "ac", ""), (0, 3)), 2001, 17),
]

# What is not a layout of TORN.
NOT_LAYOUTS = [
    *OTHER_KINDS,
    "",
    "ab",
    (),
    [],
    TORN,
    (STATE,),
    [("a", "b", ""), (0, 1)],
    (*STATE, 0),
    (("a", "b", ""),),
    ((0, 1), ("a", "b", "")),
    (["a", "b", ""], (0, 1)),
    (("a", "b", ""), [0, 1]),
    ("ab", (0, 1)),
    (("a", "b", ""), "01"),
    (("a", "b", ""), None),
    (None, (0, 1)),
    ({0: "a"}, {}),
    Alike(),
    (Alike(), (0, 1)),
    (("a", "b", ""), Alike()),
    (("a", "b", Alike()), (0, 1)),
    (("a", "b", ""), (0, Alike())),
    # As many pieces, of these letters.
    (("a", "b"), (0, 1)),
    (("ab",), (0,)),
    (("a", "b", "", ""), (0, 1)),
    (("a", "b", "c"), (0, 1)),
    (("a", "b", "aaa"), (0, 1)),
    (("a", "b", None), (0, 1)),
    (("a", "b", 0), (0, 1)),
    (("a", "b", True), (0, 1)),
    (("a", "b", ["a"]), (0, 1)),
    (("a", "b", b""), (0, 1)),
    (("a", "b", "A"), (0, 1)),
    # Orders of these blocks.
    (("a", "b", ""), (0, 1, 3)),
    (("a", "b", ""), (0, 1, -1)),
    (("a", "b", ""), (0, 1, 2, 2)),
    (("a", "b", ""), (False, True)),
    (("a", "b", ""), (0, True)),
    (("a", "b", ""), ("0", "1")),
    (("a", "b", ""), (0, None)),
    (("a", "b", ""), (0, [1])),
    (("a", "b", ""), ((0, 1),)),
    # Another text.
    (("a", "b", ""), (1, 0)),
    (("a", "b", ""), (0,)),
    (("a", "b", ""), ()),
    (("a", "b", "b"), (0, 1, 2)),
    (("ab", "b", ""), (0, 1)),
    (("", "", ""), (0, 1)),
]


class Quiet:
    """What [10] says of a file, worked out write by write and reading by reading."""

    def __init__(self, file):
        self.file = file
        self.text = file.text
        self.start = (file.pieces, file.order)
        self.plain = Plain(file)
        self.known = {}

    def steps(self, state):
        """Return the quiet writes from a state that reads the text: writes, prices and states."""
        if state not in self.known:
            self.known[state] = [
                (write, price, left)
                for write, price, left, text in self.plain.moves(state)
                if text == self.text and self.plain.is_safe(state, write, text, text)
            ]
        return self.known[state]

    def search(self, layout, limit=2000):
        """Try one cost after the other: return the least one, None or "large", and what the states that count cost."""
        costs, cost = {self.start: 0}, 0
        while any(at >= cost for at in costs.values()):
            count = {state: at for state, at in costs.items() if at <= cost}
            if layout in count:
                return cost, {state: at for state, at in costs.items() if at < cost}
            if len(count) > limit:
                return "large", count
            for state in [state for state, at in costs.items() if at == cost]:
                for _, price, left in self.steps(state):
                    costs[left] = min(costs.get(left, cost + price), cost + price)
            cost += 1
        return None, costs

    def is_tidying(self, layout, writes):
        """Return whether writes are a tidying."""
        state = self.start
        for write in writes:
            found = [left for one, _, left in self.steps(state) if one == write]
            if not found:
                return False
            state = found[0]
        return state == layout

    def is_open(self, state, layout):
        """Return whether a state reads the text, and is not the layout."""
        return plain_text(*state) == self.text and state != layout

    def shows(self, layout, writes, floors):
        """Return whether writes and floors are as in [10]."""
        if not self.is_tidying(layout, writes):
            return False
        cost = self.plain.cost_of([writes])
        if cost > 0 and not (self.start in floors and floors[self.start] >= cost):
            return False
        high = [state for state in floors if floors[state] > 0]
        if not all(self.is_open(state, layout) for state in high):
            return False
        needed = [(left, floors[state] - price) for state in high for _, price, left in self.steps(state)]
        return all(floor <= 0 or (left in floors and floors[left] >= floor) for left, floor in needed)

    def shows_none(self, layout, states):
        """Return whether states are as in [10]."""
        given = set(states)
        if self.start not in given or not all(self.is_open(state, layout) for state in given):
            return False
        return all(left in given for state in given for _, _, left in self.steps(state))


def walked(chance, quiet):
    """Return a layout to which some quiet writes by chance lead."""
    state = quiet.start
    for _ in range(chance.randrange(1, 7)):
        steps = quiet.steps(state)
        orders = [step for step in steps if step[0][0] == "order"]
        chosen = orders if orders and chance.random() < 0.4 else steps
        state = chance.choice(chosen)[2] if chosen else state
    return state


def spread(chance, file):
    """Return a layout by chance: the text of a file in parts in some blocks, in the others anything."""
    for _ in range(200):
        pieces = [chance.choice(words(file.letters, 2)) for _ in file.pieces]
        order = [chance.randrange(len(pieces)) for _ in range(chance.randrange(4))]
        cuts = sorted(chance.randrange(len(file.text) + 1) for _ in order[1:])
        for block, begin, end in zip(order, [0, *cuts], [*cuts, len(file.text)]):
            pieces[block] = file.text[begin:end]
        if all(len(piece) <= 2 for piece in pieces) and plain_text(pieces, order) == file.text:
            return (tuple(pieces), tuple(order))
    return (file.pieces, file.order)


@lru_cache(maxsize=None)
def cases():
    """Return files and layouts with what the plain search says: the plain file, a layout, the answer, the costs."""
    chance = random.Random(31)
    found = []
    for file in random_files(32, KINDS):
        quiet = Quiet(file)
        layouts = {quiet.start, *[walked(chance, quiet) for _ in range(4)], *[spread(chance, file) for _ in range(3)]}
        found.extend([(quiet, layout, *quiet.search(layout)) for layout in sorted(layouts)])
    return found


def small_cases(most):
    """Return the cases that are not too large, and whose answer depends on at most so many states."""
    return [case for case in cases() if case[2] != "large" and len(case[3]) <= most]


def tidyings(most):
    """Return the plain file, the layout, the cost and the Tidying of many cases."""
    return [(quiet, layout, cost, tidy(quiet.file, layout)) for quiet, layout, cost, _ in small_cases(most) if cost]


def no_tidyings(most):
    """Return the plain file, the layout and the NoTidying of many cases."""
    return [(quiet, layout, tidy(quiet.file, layout)) for quiet, layout, cost, _ in small_cases(most) if cost is None]


class ExampleTest(Case):
    def test_the_example_of_the_interface(self):
        self.assert_example(EXAMPLE, 6)


class TidyTest(Case):
    def test_held_against_a_plain_search(self):
        kinds = set()
        for quiet, layout, answer, _ in cases():
            file = quiet.file
            with self.subTest(file=parts(file), layout=layout):
                if answer == "large":
                    self.assert_refused(TooLarge, tidy, file, layout)
                    self.assert_refused(TooLarge, tidy_cost, file, layout)
                    continue
                self.assertEqual(tidy_cost(file, layout), answer)
                found = tidy(file, layout)
                self.assertIs(found.__class__, NoTidying if answer is None else Tidying)
                self.assertIs(found.shows(file, layout), True)
                if answer is None:
                    self.assertIs(found.states.__class__, list)
                    self.assertTrue(quiet.shows_none(layout, found.states))
                else:
                    self.assertEqual((found.writes.__class__, found.floors.__class__), (tuple, dict))
                    self.assertTrue(quiet.shows(layout, found.writes, found.floors))
                    self.assertEqual(cost_of(file, found.writes), answer)
                    end = apply(file, found.writes)
                    self.assertEqual((end.pieces, end.order), layout)
                kinds.add((answer if answer in (0, None) else "some", file.torn))
        self.assertEqual(kinds, {(kind, torn) for kind in (0, None, "some") for torn in (False, True)})

    def test_the_layout_that_the_file_has(self):
        for file in [*random_files(33, KINDS), VAST, TORN]:
            state = (file.pieces, file.order)
            self.assertEqual(tidy_cost(file, state), 0)
            found = tidy(file, state)
            self.assertEqual(found.writes, ())
            self.assertTrue(found.shows(file, state))
            for floors in [{}, {state: 0}, {state: -2}]:
                self.assertIs(Tidying((), floors).shows(file, state), True)
            self.assertIs(Tidying((), {state: 1}).shows(file, state), False)
            self.assertIs(NoTidying([state]).shows(file, state), False)
            self.assertIs(NoTidying([]).shows(file, state), False)

    def test_there_and_back_is_no_cheapest_tidying(self):
        there = ("piece", 2, "a")
        for floors in [{}, {STATE: 2}, {STATE: 2, (("a", "b", "a"), (0, 1)): 1}]:
            self.assertIs(Tidying((there, ("piece", 2, "")), floors).shows(TORN, STATE), False)

    def test_by_hand(self):
        self.assertEqual(tidy_cost(TORN, (("a", "b", "ab"), (0, 1))), 1)
        self.assertEqual(tidy_cost(TORN, (("a", "b", "ab"), (2,))), 2)
        self.assertEqual(tidy_cost(TORN, (("a", "", "ab"), (2,))), 3)
        # An unseen piece is written, the order, and a piece that is no longer seen.
        self.assertEqual(tidy(TORN, (("a", "", "ab"), (2,))).writes, (*WAY[:2], ("piece", 1, "")))
        self.assertEqual(tidy_cost(TORN, GOAL), 5)
        self.assertTrue(tidy(TORN, GOAL).shows(TORN, GOAL))
        self.assertEqual(tidy(TIGHT, TIGHT_GOAL), NoTidying([TIGHT_STATE]))
        self.assertIsNone(tidy_cost(TIGHT, TIGHT_GOAL))
        # With the third block, the two pieces can be exchanged.
        self.assertEqual(tidy_cost(TORN, (("b", "a", ""), (1, 0))), 7)

    def test_prices(self):
        for piece_price, order_price in [(1, 1), (2, 5), (5, 2), (3, 4)]:
            file = File("ab", ("a", "b", ""), (0, 1), piece_price=piece_price, order_price=order_price, torn=True)
            self.assertEqual(tidy_cost(file, (("a", "b", "ab"), (2,))), piece_price + order_price)
            self.assertEqual(tidy_cost(file, (("a", "", "ab"), (2,))), 2 * piece_price + order_price)
            self.assertEqual(tidy_cost(file, (("a", "b", ""), (0, 1, 2))), order_price)

    def test_tearing(self):
        # Torn, the order leaves the order (2, 1): the text "b".
        whole = File("ab", ("a", "b", ""), (0, 1))
        layout = (("a", "b", ""), (2, 0, 1))
        self.assertEqual([tidy_cost(file, layout) for file in (whole, TORN)], [1, None])
        # Torn, it leaves the order (0, 1), and the second time the order (0, 1) as well.
        layout = (("a", "b", ""), (0, 1, 2))
        self.assertEqual([tidy_cost(file, layout) for file in (whole, TORN)], [1, 1])

    def test_pieces_that_cannot_be_seen(self):
        # Nothing is read, whatever the pieces are: each one is written once.
        file = File("abc", ("a", "b"), (), piece_price=2, torn=True)
        self.assertEqual(tidy_cost(file, (("cc", "b"), ())), 2)
        self.assertEqual(tidy_cost(file, (("cc", "ba"), ())), 4)
        self.assertEqual(tidy_cost(file, (("cc", ""), (1,))), 5)
        self.assertEqual(tidy_cost(file, (("", ""), (1, 0, 1))), 5)

    def test_it_never_reads_anything_else(self):
        for quiet, layout, cost, found in tidyings(200):
            file = quiet.file
            for write in found.writes:
                self.assertEqual(set(plain_readings(file, write)), {quiet.file.text})
                self.assertEqual(set(torn_texts(file, write)), {quiet.file.text})
                file = after(file, write)
            self.assertEqual((file.pieces, file.order), layout)

    def test_back_again(self):
        # Without tearing, each quiet write can be taken back by a quiet one at the same price.
        many = 0
        for quiet, layout, cost, _ in small_cases(100):
            if not quiet.file.torn:
                self.assertEqual(tidy_cost(file_like(quiet.file, layout), quiet.start), cost)
                many += 1
        self.assertGreater(many, 100)


class OrdersOfTextTest(Case):
    def orders(self, file):
        """Return all orders that give the text, by their lengths, then as tuples, from [10] alone."""
        blocks = range(len(file.pieces))
        orders = [order for size in (3, 1, 0, 2) for order in product(blocks, repeat=size)]
        text = plain_text(file.pieces, file.order)
        found = [order for order in orders if plain_text(file.pieces, order) == text]
        return sorted(found, key=lambda order: (len(order), order))

    def test_held_against_all_orders(self):
        kinds = {("ab", 1): 30, ("ab", 2): 40, ("abc", 3): 40, ("ab", 4): 40}
        for file in sample_files() + random_files(34, kinds):
            self.assertEqual(orders_of_text(file), self.orders(file))
            self.assertIn(file.order, orders_of_text(file))

    def test_by_hand(self):
        self.assertEqual(orders_of_text(TIGHT), [(0, 1)])
        self.assertEqual(orders_of_text(TORN), [(0, 1), (0, 1, 2), (0, 2, 1), (2, 0, 1)])
        self.assertEqual(orders_of_text(File("ab", ("",), ())), [(), (0,), (0, 0), (0, 0, 0)])
        self.assertEqual(orders_of_text(File("ab", ("a",), ())), [()])
        self.assertEqual(orders_of_text(File("ab", ("a", "aa"), (0, 0))), [(1,), (0, 0)])
        self.assertEqual(orders_of_text(File("ab", ("a", "a", "aa"), (0, 1, 0)))[:3], [(0, 2), (1, 2), (2, 0)])

    def test_the_list_is_new(self):
        orders_of_text(TORN).clear()
        self.assertEqual(len(orders_of_text(TORN)), 4)
        self.assertIsNot(orders_of_text(TORN), orders_of_text(TORN))

    def test_no_file(self):
        for value in NOT_FILES:
            self.assertIsNone(self.assert_refused(BadFile, orders_of_text, value).part)


class TidyingShowsTest(Case):
    def assert_as_plain(self, quiet, layout, writes, floors):
        shown = Tidying(writes, floors).shows(quiet.file, layout)
        self.assertIs(shown, quiet.shows(layout, writes, floors))
        return shown

    def test_the_dict_in_another_order(self):
        for quiet, layout, _, found in tidyings(200):
            turned = Tidying(found.writes, dict(reversed(list(found.floors.items()))))
            self.assertTrue(turned.shows(quiet.file, layout))
            self.assertTrue(turned == found)

    def test_the_tightest_floors(self):
        for quiet, layout, answer, costs in small_cases(60):
            if answer:
                floors = {state: answer - cost for state, cost in costs.items()}
                self.assertTrue(self.assert_as_plain(quiet, layout, tidy(quiet.file, layout).writes, floors))

    def test_a_write_left_out_or_put_elsewhere(self):
        for quiet, layout, _, found in tidyings(60):
            for at, write in enumerate(found.writes):
                rest = found.writes[:at] + found.writes[at + 1:]
                self.assertFalse(self.assert_as_plain(quiet, layout, rest, found.floors))
                self.assert_as_plain(quiet, layout, (*rest, write), found.floors)
                self.assertFalse(self.assert_as_plain(quiet, layout, (*found.writes, write), found.floors))

    def test_a_dearer_tidying_with_the_same_floors(self):
        dearer = 0
        for quiet, layout, answer, found in tidyings(30):
            for write, _, left in quiet.steps(quiet.start)[:12]:
                rest = tidy(file_like(quiet.file, left), layout)
                if rest.__class__ is Tidying:
                    writes = (write, *rest.writes)
                    self.assertTrue(quiet.is_tidying(layout, writes))
                    shown = self.assert_as_plain(quiet, layout, writes, found.floors)
                    self.assertIs(shown, cost_of(quiet.file, writes) == answer)
                    dearer += not shown
        self.assertGreater(dearer, 50)

    def test_through_the_layout_and_back_to_it(self):
        many = 0
        for quiet, layout, _, found in tidyings(30):
            for write, _, left in quiet.steps(layout)[:8]:
                rest = tidy(file_like(quiet.file, left), layout)
                if rest.__class__ is Tidying:
                    writes = (*found.writes, write, *rest.writes)
                    self.assertTrue(quiet.is_tidying(layout, writes))
                    for extra in ({}, {layout: 1}, {layout: cost_of(quiet.file, writes)}):
                        self.assertFalse(self.assert_as_plain(quiet, layout, writes, {**found.floors, **extra}))
                    many += 1
        self.assertGreater(many, 50)

    def test_a_floor_raised_or_lowered_or_left_out(self):
        for quiet, layout, _, found in tidyings(25):
            for state, floor in found.floors.items():
                for changed in (floor + 1, floor - 1, 0, -floor):
                    shown = self.assert_as_plain(quiet, layout, found.writes, {**found.floors, state: changed})
                    self.assertFalse(shown and state == quiet.start and changed != floor)
                rest = {other: found.floors[other] for other in found.floors if other != state}
                shown = self.assert_as_plain(quiet, layout, found.writes, rest)
                self.assertFalse(shown and state == quiet.start)

    def test_a_floor_where_there_must_be_none(self):
        for quiet, layout, _, found in tidyings(25):
            blocks = len(quiet.file.pieces)
            odd = [(("a",) * blocks, order) for order in [(), (0,), (0, 0), (0, 0, 0)]]
            odd += [(("",) * blocks, ()), (quiet.file.pieces, ())]
            for state in [layout, *[state for state in odd if plain_text(*state) != quiet.text]]:
                for floor in (0, -1, -7):
                    more = {**found.floors, state: floor}
                    self.assertTrue(self.assert_as_plain(quiet, layout, found.writes, more))
                for floor in (1, 7):
                    more = {**found.floors, state: floor}
                    self.assertFalse(self.assert_as_plain(quiet, layout, found.writes, more))

    def test_no_floor_at_all(self):
        for quiet, layout, _, found in tidyings(60):
            self.assertFalse(self.assert_as_plain(quiet, layout, found.writes, {}))

    def test_by_hand(self):
        found = tidy(TORN, GOAL)
        self.assertTrue(Tidying(WAY, found.floors).shows(TORN, GOAL))
        self.assertFalse(Tidying(WAY, {STATE: 5}).shows(TORN, GOAL))
        self.assertFalse(Tidying(WAY, {**found.floors, STATE: 4}).shows(TORN, GOAL))
        self.assertFalse(Tidying(WAY[:4], found.floors).shows(TORN, GOAL))
        # An order that reads another text in between.
        loud = (("order", (0,)), ("piece", 0, "ab"))
        for floors in ({}, found.floors, {STATE: 2}):
            self.assertFalse(Tidying(loud, floors).shows(TORN, GOAL))
        # A cost of 1 can be shown by the state of the file alone.
        self.assertTrue(Tidying((("piece", 2, "b"),), {STATE: 1}).shows(TORN, (("a", "b", "b"), (0, 1))))

    def test_another_file_or_layout(self):
        found = tidy(TORN, GOAL)
        self.assertFalse(found.shows(TORN, STATE))
        self.assertFalse(found.shows(TORN, (("a", "b", "ab"), (2,))))
        self.assertFalse(found.shows(file_like(TORN, (("a", "b", "a"), (0, 1))), GOAL))
        dear = File("ab", ("a", "b", ""), (0, 1), order_price=2, torn=True)
        self.assertFalse(found.shows(dear, GOAL))

    def test_writes_that_cannot_be_done_one_after_the_other(self):
        floors = tidy(TORN, GOAL).floors
        for writes in [WAY[:1] + WAY, (*WAY, WAY[-1]), (("order", (0, 1)), *WAY), WAY[::-1], (("piece", 0, "a"), *WAY)]:
            self.assertIs(Tidying(writes, floors).shows(TORN, GOAL), False)

    def test_attributes_that_are_set_anew(self):
        found = tidy(TORN, GOAL)
        writes, floors = found.writes, found.floors
        found.writes = ()
        self.assertFalse(found.shows(TORN, GOAL))
        found.writes = writes
        self.assertTrue(found.shows(TORN, GOAL))
        found.floors = {}
        self.assertFalse(found.shows(TORN, GOAL))
        self.assertEqual([found.shows(TORN, layout) for layout in (STATE, GOAL)], [False, False])
        found.writes = ()
        self.assertEqual([found.shows(TORN, layout) for layout in (STATE, GOAL)], [True, False])
        found.writes, found.floors = writes, floors
        floors[STATE] = 1
        self.assertFalse(found.shows(TORN, GOAL))


class NoTidyingShowsTest(Case):
    def assert_as_plain(self, quiet, layout, states):
        shown = NoTidying(states).shows(quiet.file, layout)
        self.assertIs(shown, quiet.shows_none(layout, states))
        return shown

    def found(self, most=100):
        """Return the plain file, the layout and the NoTidying of many layouts that cannot be reached."""
        chosen = no_tidyings(most)
        self.assertGreater(len(chosen), 10)
        return chosen

    def test_in_another_order_and_with_a_state_twice(self):
        for quiet, layout, found in self.found():
            self.assertTrue(NoTidying(found.states[::-1]).shows(quiet.file, layout))
            self.assertTrue(NoTidying(found.states + found.states[:1]).shows(quiet.file, layout))

    def test_a_state_left_out(self):
        for quiet, layout, found in self.found():
            for state in found.states:
                rest = [other for other in found.states if other != state]
                shown = self.assert_as_plain(quiet, layout, rest)
                self.assertFalse(shown and state == quiet.start)

    def test_the_layout_among_them(self):
        for quiet, layout, found in self.found():
            for states in ([*found.states, layout], [layout, *found.states], [layout]):
                self.assertFalse(self.assert_as_plain(quiet, layout, states))

    def test_all_that_can_be_reached_from_the_layout_as_well(self):
        # Closed, but with this layout: nothing is shown. For another one, which is not in it, the same list is good.
        both = [TIGHT_STATE, TIGHT_GOAL]
        self.assertFalse(NoTidying(both).shows(TIGHT, TIGHT_GOAL))
        self.assertTrue(NoTidying(both).shows(TIGHT, (("ab", ""), (0,))))

    def test_one_too_many_that_reads_something_else(self):
        for quiet, layout, found in self.found():
            blocks = len(quiet.file.pieces)
            others = [(quiet.file.pieces, ()), (("b",) * blocks, (0,)), (("aa",) * blocks, (0, 0, 0))]
            for state in [state for state in others if plain_text(*state) != quiet.text]:
                self.assertFalse(self.assert_as_plain(quiet, layout, [*found.states, state]))
                self.assertFalse(self.assert_as_plain(quiet, layout, [state, *found.states]))

    def test_one_too_many_that_reads_the_text(self):
        chance = random.Random(35)
        shown = []
        for quiet, layout, found in self.found():
            for state in [spread(chance, quiet.file) for _ in range(6)]:
                shown.append(self.assert_as_plain(quiet, layout, [*found.states, state]))
        self.assertEqual(set(shown), {False, True})

    def test_an_empty_list_and_one_without_the_state_of_the_file(self):
        for quiet, layout, _ in self.found():
            self.assertFalse(NoTidying([]).shows(quiet.file, layout))
        # The other state is closed as well.
        self.assertTrue(NoTidying([TIGHT_GOAL]).shows(file_like(TIGHT, TIGHT_GOAL), TIGHT_STATE))
        self.assertFalse(NoTidying([TIGHT_GOAL]).shows(TIGHT, TIGHT_GOAL))
        self.assertFalse(NoTidying([TIGHT_GOAL]).shows(TIGHT, TIGHT_STATE))

    def test_where_there_is_a_tidying(self):
        for quiet, layout, answer, costs in small_cases(60):
            if answer:
                self.assertFalse(self.assert_as_plain(quiet, layout, list(costs)))
                self.assertFalse(self.assert_as_plain(quiet, layout, [quiet.start]))

    def test_attributes_that_are_set_anew(self):
        found = tidy(TIGHT, TIGHT_GOAL)
        states = found.states
        found.states = []
        self.assertFalse(found.shows(TIGHT, TIGHT_GOAL))
        found.states = states
        self.assertTrue(found.shows(TIGHT, TIGHT_GOAL))
        states.append(TIGHT_GOAL)
        self.assertFalse(found.shows(TIGHT, TIGHT_GOAL))


class LimitTest(Case):
    def test_states_at_below_and_beyond_the_limit(self):
        for pieces, order, piece_price, order_price, torn, layout, many, cost in STATES:
            file = File("abc", pieces, order, piece_price=piece_price, order_price=order_price, torn=torn)
            with self.subTest(file=parts(file), layout=layout):
                answer, costs = Quiet(file).search(layout, 10**9)
                self.assertEqual((answer, len(costs)), (cost, many))
                if many > 2000:
                    self.assert_refused(TooLarge, tidy, file, layout)
                    self.assert_refused(TooLarge, tidy_cost, file, layout)
                else:
                    self.assertEqual(tidy_cost(file, layout), cost)
                    self.assertTrue(tidy(file, layout).shows(file, layout))

    def test_more_states_at_a_greater_cost_do_not_matter(self):
        near = (("ab", "c", "a", ""), (0, 1))
        self.assertEqual(tidy_cost(VAST, near), 1)
        self.assertTrue(tidy(VAST, near).shows(VAST, near))
        self.assertEqual(tidy_cost(VAST, (("ab", "c", "a", "b"), (0, 1))), 2)
        self.assert_refused(TooLarge, tidy_cost, VAST, VAST_GOAL)
        self.assert_refused(TooLarge, tidy, VAST, VAST_GOAL)

    def test_too_large_also_where_there_is_none(self):
        # Where writes can be torn, a text of four letters in two full blocks remains cut in the middle.
        layout = (("a", "bc", "a", ""), (0, 1, 2))
        file = File("abc", ("ab", "ca", "", ""), (0, 1), torn=True)
        answer, costs = Quiet(file).search(layout, 10**9)
        self.assertEqual((answer, len(costs)), (None, 2340))
        self.assert_refused(TooLarge, tidy, file, layout)
        self.assert_refused(TooLarge, tidy_cost, file, layout)
        # With one block less, and without the letter "c", there are fewer such states.
        for file, layout, many in [
            (File("abc", ("ab", "ca", ""), (0, 1), torn=True), (("a", "bc", "a"), (0, 1, 2)), 84),
            (File("ab", ("ab", "ba", "", ""), (0, 1), torn=True), (("a", "bb", "a", ""), (0, 1, 2)), 756),
        ]:
            self.assertIsNone(tidy_cost(file, layout))
            self.assertEqual(len(set(tidy(file, layout).states)), many)

    def test_each_other_limit(self):
        seen = set()
        for quiet, layout, answer, costs in small_cases(120):
            many = len(costs)
            with self.subTest(file=parts(quiet.file), layout=layout):
                for limit in {max(many - 1, 0), many, many + 1, many // 2}:
                    expected = quiet.search(layout, limit)[0]
                    self.assertEqual(expected == "large", limit < many)
                    with patch(LIMIT, limit):
                        self.assert_limited(quiet.file, layout, expected)
                    seen.add((expected == "large", answer is None))
        self.assertEqual(seen, {(large, none) for large in (False, True) for none in (False, True)})

    def assert_limited(self, file, layout, expected):
        """Assert that both functions give what is expected, or TooLarge."""
        if expected == "large":
            self.assert_refused(TooLarge, tidy, file, layout)
            self.assert_refused(TooLarge, tidy_cost, file, layout)
            return
        self.assertEqual(tidy_cost(file, layout), expected)
        self.assertTrue(tidy(file, layout).shows(file, layout))

    def test_the_layout_that_the_file_has_is_never_too_large(self):
        for file in (TORN, TIGHT, VAST):
            with patch(LIMIT, 0):
                self.assertEqual(tidy_cost(file, (file.pieces, file.order)), 0)
                self.assertEqual(tidy(file, (file.pieces, file.order)).writes, ())

    def test_shows_needs_no_search(self):
        found, none = tidy(TORN, GOAL), tidy(TIGHT, TIGHT_GOAL)
        with patch(LIMIT, 0):
            self.assertTrue(found.shows(TORN, GOAL))
            self.assertTrue(none.shows(TIGHT, TIGHT_GOAL))

    def test_never_further_than_needed(self):
        for quiet, layout, answer, costs in small_cases(100):
            with patch.object(Moves, "safe", autospec=True, side_effect=Moves.safe) as safe:
                tidy_cost(quiet.file, layout)
            states = [call.args[1] for call in safe.call_args_list]
            self.assertEqual(len(states), len(set(states)))
            least = min(quiet.file.piece_price, quiet.file.order_price)
            needed = [state for state in costs if answer is None or costs[state] <= answer - least]
            self.assertLessEqual(len(states), len(needed))


class ObjectTest(Case):
    def test_attributes_are_set_when_the_object_is_made(self):
        found = Tidying(WAY, {STATE: 5})
        self.assertEqual((found.writes, found.floors), (WAY, {STATE: 5}))
        self.assertEqual(NoTidying([STATE]).states, [STATE])
        self.assertEqual(Tidying(writes=(), floors={}).writes, ())
        self.assertEqual(NoTidying(states=[]).states, [])

    def test_dict_and_list_are_copied(self):
        floors, states = {STATE: 5}, [STATE]
        found, none = Tidying(WAY, floors), NoTidying(states)
        floors[GOAL] = 5
        floors[STATE] = 0
        states.append(GOAL)
        self.assertEqual((found.floors, none.states), ({STATE: 5}, [STATE]))
        found.floors.clear()
        none.states.clear()
        self.assertEqual((floors, states), ({STATE: 0, GOAL: 5}, [STATE, GOAL]))

    def test_equality(self):
        found, none = Tidying(WAY, {STATE: 5, GOAL: 0}), NoTidying([STATE, GOAL])
        self.assertTrue(found == Tidying(WAY, {GOAL: 0, STATE: 5}))
        self.assertFalse(found != Tidying(WAY, {STATE: 5, GOAL: 0}))
        self.assertTrue(none == NoTidying([STATE, GOAL]))
        self.assertFalse(none != NoTidying([STATE, GOAL]))
        floors = {STATE: 5, GOAL: 0}
        others = [(WAY[:1], floors), (WAY, {STATE: 5}), (WAY, {STATE: 5, GOAL: 1}), (WAY, {}), ((), floors), ((), {})]
        for writes, other in others:
            self.assertIs(found == Tidying(writes, other), False)
            self.assertIs(found != Tidying(writes, other), True)
        for states in [[STATE], [GOAL, STATE], [STATE, GOAL, GOAL], []]:
            self.assertIs(none == NoTidying(states), False)
            self.assertIs(none != NoTidying(states), True)

    def test_equality_is_that_of_the_current_attributes(self):
        found, other = Tidying(WAY, {}), Tidying((), {})
        other.writes = WAY
        self.assertTrue(found == other)
        other.floors[STATE] = 1
        self.assertFalse(found == other)

    def test_never_equal_to_what_is_of_another_kind(self):
        mine = [Tidying(WAY, {STATE: 5}), NoTidying([STATE]), Tidying((), {}), NoTidying([])]
        others = [Plan(WAY, {STATE: 5}), Plan((), {}), NoPlan([STATE]), NoPlan([]), Tour(WAY, {STATE: 5})]
        others += [Tour([], {}), NoTour([STATE]), NoTour([]), TORN, BadLayout(), *OTHER_KINDS]
        others += [WAY, {STATE: 5}, [STATE], (WAY, {STATE: 5}), (), []]
        for at, one in enumerate(mine):
            for other in others + mine[:at] + mine[at + 1:]:
                self.assertIs(one == other, False)
                self.assertIs(one != other, True)
                self.assertIs(other == one, False)
                self.assertIs(other != one, True)

    def test_never_equal_to_what_only_has_the_same_attributes(self):
        class Alike:
            writes, floors, states = WAY, {STATE: 5}, [STATE]

        for one in (Tidying(WAY, {STATE: 5}), NoTidying([STATE])):
            self.assertIs(one == Alike(), False)
            self.assertIs(one != Alike(), True)


class RefusedTest(Case):
    def calls(self):
        """Return the functions of a file and a layout."""
        return [tidy, tidy_cost, Tidying((), {}).shows, NoTidying([]).shows]

    def test_no_file(self):
        for function in self.calls():
            for value in NOT_FILES:
                for layout in [STATE, *NOT_LAYOUTS[::5]]:
                    self.assertIsNone(self.assert_refused(BadFile, function, value, layout).part)

    def test_no_layout(self):
        for function in self.calls():
            for layout in NOT_LAYOUTS:
                self.assert_refused(BadLayout, function, TORN, layout)

    def test_letters_blocks_and_text_are_those_of_the_file(self):
        for function in self.calls():
            three = File("abc", ("a", "b", ""), (0, 1))
            function(three, (("a", "b", "c"), (0, 1)))
            self.assert_refused(BadLayout, function, TORN, (("a", "b", "c"), (0, 1)))
            function(TIGHT, TIGHT_GOAL)
            self.assert_refused(BadLayout, function, TORN, TIGHT_GOAL)
            self.assert_refused(BadLayout, function, TIGHT, STATE)
            self.assert_refused(BadLayout, function, file_like(TORN, (("a", "b", ""), (1, 0))), STATE)

    def test_all_layouts_of_a_small_file(self):
        file = File("ab", ("ab", ""), (0,), torn=True)
        pieces = [(one, other) for one in words("ab", 2) for other in words("ab", 2)]
        orders = [order for size in range(4) for order in product(range(2), repeat=size)]
        layouts = 0
        for state in product(pieces, orders):
            if plain_text(*state) == "ab":
                tidy_cost(file, state)
                layouts += 1
            else:
                self.assert_refused(BadLayout, tidy_cost, file, state)
        self.assertEqual(layouts, 26)

    def test_bad_layout_comes_before_too_large(self):
        for layout in [(("c", "ab", "", ""), (0, 1)), None, (("c", "ab", ""), (1, 0))]:
            self.assert_refused(BadLayout, tidy, VAST, layout)
            self.assert_refused(BadLayout, tidy_cost, VAST, layout)

    def test_nothing_has_changed_after_a_refused_call(self):
        found, none = Tidying(WAY, {STATE: 5}), NoTidying([STATE])
        for one in (found, none):
            self.assert_refused(BadFile, one.shows, None, STATE)
            self.assert_refused(BadLayout, one.shows, TORN, TIGHT_GOAL)
        self.assertEqual((found, none), (Tidying(WAY, {STATE: 5}), NoTidying([STATE])))


class KeptTest(Case):
    def test_what_a_caller_does_with_results(self):
        found, none = tidy(TORN, GOAL), tidy(TIGHT, TIGHT_GOAL)
        found.floors.clear()
        found.writes = ()
        none.states.append(1)
        self.assertTrue(tidy(TORN, GOAL).shows(TORN, GOAL))
        self.assertEqual(tidy(TIGHT, TIGHT_GOAL).states, [TIGHT_STATE])
        self.assertIsNot(tidy(TORN, GOAL).floors, tidy(TORN, GOAL).floors)

    def test_shows_changes_nothing(self):
        found, none = tidy(TORN, GOAL), tidy(TIGHT, TIGHT_GOAL)
        before = found.writes, list(found.floors.items()), list(none.states), parts(TORN), parts(TIGHT)
        for layout in (STATE, GOAL):
            found.shows(TORN, layout)
        none.shows(TIGHT, TIGHT_GOAL)
        none.shows(TIGHT, TIGHT_STATE)
        now = found.writes, list(found.floors.items()), none.states, parts(TORN), parts(TIGHT)
        self.assertEqual(now, before)

    def test_the_same_answer_again(self):
        for quiet, layout, _, _ in small_cases(30)[::3]:
            self.assertEqual(tidy(quiet.file, layout), tidy(quiet.file, layout))


if __name__ == "__main__":
    unittest.main()
