"""Tests of safepatch.crashes: the states that a failure of power leaves, and going on and back from them ([11])."""

import random
import unittest
from functools import lru_cache
from unittest.mock import patch

from safepatch.crashes import backward, crashes, forward, worst
from safepatch.errors import BadFile, BadGoal, BadWrites, TooLarge
from safepatch.files import File
from safepatch.plans import Plan, least_cost, plan
from safepatch.writes import after, safe_writes
from tests.samples import (
    FILE,
    NOT_FILES,
    NOT_TEXTS,
    NOT_WRITES,
    OTHER_KINDS,
    Case,
    Plain,
    file_like,
    parts,
    plain_after,
    plain_text,
    random_files,
    random_text,
)

# The example of the interface, as it stands there.
EXAMPLE = """
>>> from safepatch.crashes import backward, crashes, forward, worst
>>> from safepatch.files import File
>>> file = File('ab', ('a', 'b', ''), (0, 1), torn=True)
>>> writes = [('piece', 2, 'ba'), ('order', (2,))]
>>> [crashes(file, 'ba', writes), list(forward(file, 'ba', writes).values()), list(backward(file, 'ba', writes).values()), worst(file, 'ba', writes)]
[[(('a', 'b', ''), (0, 1)), (('a', 'b', 'b'), (0, 1)), (('a', 'b', 'ba'), (0, 1)), (('a', 'b', 'ba'), (2,))], [2, 2, 1, 0], [0, 0, 0, 2], ((('a', 'b', ''), (0, 1)), 2)]
"""

LIMIT = "safepatch.ways.MOST_NODES"
KINDS = {("ab", 1): 14, ("ab", 2): 24, ("ab", 3): 8, ("abc", 1): 8, ("abc", 2): 10}
CALLS = [crashes, forward, backward, worst]
TORN = File("ab", ("a", "b", ""), (0, 1), torn=True)
WHOLE = File("ab", ("a", "b", ""), (0, 1))
STATE = (("a", "b", ""), (0, 1))
SWAP = [("piece", 2, "ba"), ("order", (2,))]
# Going back needs too many states, going on a single write.
CUT = File("abc", ("cc", "cb", "cc", "bb"), (2, 0, 0), piece_price=5, torn=True)
# Going on needs too many states, although there is a change.
SPUN = File("ab", ("bb", "", "bb", "b"), (), piece_price=4, order_price=3)
SPUN_WRITES = [("piece", 0, "ab"), ("piece", 1, "aa"), ("piece", 2, "ba"), ("order", (0, 1, 2))]


def plain_crashes(file, writes):
    """Return the states that are left, from [11] alone."""
    state = (file.pieces, file.order)
    found = [state]
    for write in writes:
        new = write[-1]
        old = state[1] if write[0] == "order" else state[0][write[1]]
        for n in range(len(new) if file.torn else 0):
            found.append(plain_after(*state, (*write[:-1], new[:n] + old[n:])))
        state = plain_after(*state, write)
        found.append(state)
    return [state for at, state in enumerate(found) if state not in found[:at]]


def detour(chance, file, text):
    """Return a change by chance: some safe writes that read the old text, then a cheapest change; None if none."""
    writes, old = [], file.text
    for _ in range(chance.choice([0, 0, 1, 2, 3, 5])):
        choices = [write for write in safe_writes(file, text) if after(file, write).text == old]
        if old != text and choices:
            writes.append(chance.choice(choices))
            file = after(file, writes[-1])
    try:
        found = plan(file, text)
    except TooLarge:
        return None
    return [*writes, *found.writes] if found.__class__ is Plan else None


@lru_cache(maxsize=None)
def cases():
    """Return files, texts and changes to them."""
    chance = random.Random(41)
    found = []
    for file in random_files(42, KINDS):
        for text in sorted({file.text, *[random_text(chance, file) for _ in range(5)]}):
            changes = [detour(chance, file, text) for _ in range(2)]
            found.extend([(file, text, tuple(writes)) for writes in changes if writes is not None])
    return found


@lru_cache(maxsize=None)
def plain_cost(letters, state, prices, text):
    """Return what a plain search says that the cheapest change from a state to a text costs."""
    piece_price, order_price, torn = prices
    file = File(letters, *state, piece_price=piece_price, order_price=order_price, torn=torn)
    return Plain(file).search([text])[0]


def plain_costs(file, writes, text):
    """Return the list of the pairs of a state that is left and what the cheapest change from it to a text costs."""
    prices = (file.piece_price, file.order_price, file.torn)
    return [(state, plain_cost(file.letters, state, prices, text)) for state in plain_crashes(file, writes)]


class ExampleTest(Case):
    def test_the_example_of_the_interface(self):
        self.assert_example(EXAMPLE, 5)


class CrashesTest(Case):
    def test_held_against_the_plain_words(self):
        seen = set()
        for file, text, writes in cases():
            with self.subTest(file=parts(file), text=text, writes=writes):
                expected = plain_crashes(file, writes)
                for given in (writes, list(writes)):
                    found = crashes(file, text, given)
                    self.assertIs(found.__class__, list)
                    self.assertEqual(found, expected)
                self.assertLessEqual({plain_text(*state) for state in found}, {file.text, text})
                seen.add((file.torn, len(writes)))
        self.assertLessEqual({(torn, many) for torn in (False, True) for many in range(6)}, seen)

    def test_no_write_at_all(self):
        for file in [TORN, WHOLE, FILE, CUT]:
            state = (file.pieces, file.order)
            for writes in ([], ()):
                self.assertEqual(crashes(file, file.text, writes), [state])
                self.assertEqual(forward(file, file.text, writes), {state: 0})
                self.assertEqual(backward(file, file.text, writes), {state: 0})
                self.assertEqual(worst(file, file.text, writes), (state, 0))

    def test_only_whole_writes_where_they_cannot_be_torn(self):
        pieces = ("a", "b", "ba")
        self.assertEqual(crashes(WHOLE, "ba", SWAP), [STATE, (pieces, (0, 1)), (pieces, (2,))])
        self.assertEqual(crashes(WHOLE, "ba", [("order", (1, 0))]), [STATE, (("a", "b", ""), (1, 0))])

    def test_torn_pieces_and_orders(self):
        file = File("ab", ("ab", "ba"), (0,), torn=True)
        # From "ba": the old piece, then "ab" with the first letter only, then the new one.
        writes = [("piece", 1, "ab"), ("order", (0, 1))]
        expected = [(("ab", piece), (0,)) for piece in ("ba", "aa", "ab")] + [(("ab", "ab"), (0, 1))]
        self.assertEqual(crashes(file, "abab", writes), expected)
        # Torn behind the first block, the order (1,) would stand there; behind the second one, (1, 0).
        file = File("ab", ("ab", "ab", ""), (0,), torn=True)
        writes = [("order", (1, 2, 0))]
        orders = [(0,), (1,), (1, 2), (1, 2, 0)]
        self.assertEqual(crashes(file, "abab", writes), [(("ab", "ab", ""), order) for order in orders])

    def test_longer_contents_keep_their_rest(self):
        # Torn, the order (1,) over (0, 0, 0) leaves only the old one.
        file = File("ab", ("", "a"), (0, 0, 0), torn=True)
        self.assertEqual(crashes(file, "a", [("order", (1,))]), [(("", "a"), (0, 0, 0)), (("", "a"), (1,))])
        self.assertEqual(
            crashes(file, "a", [("order", (0, 1))]),
            [(("", "a"), order) for order in [(0, 0, 0), (0, 1)]],
        )

    def test_an_empty_content_leaves_nothing_between(self):
        file = File("ab", ("ab", "ba"), (0,), torn=True)
        for write, last in [(("piece", 0, ""), (("", "ba"), (0,))), (("order", ()), (("ab", "ba"), ()))]:
            self.assertEqual(crashes(file, "", [write]), [(("ab", "ba"), (0,)), last])

    def test_each_state_once_where_it_comes_first(self):
        there, back = ("piece", 2, "ba"), ("piece", 2, "")
        writes = [there, back, ("piece", 2, "b"), *SWAP]
        states = [(("a", "b", piece), (0, 1)) for piece in ("", "b", "ba")] + [(("a", "b", "ba"), (2,))]
        self.assertEqual(crashes(TORN, "ba", writes), states)
        self.assertEqual(crashes(WHOLE, "ba", writes), [states[0], states[2], states[1], states[3]])
        self.assertEqual(list(forward(WHOLE, "ba", writes).values()), [1, 1, 1, 0])

    def test_a_long_change(self):
        writes = [("piece", 2, piece) for piece in ("a", "", "bb", "ab", "a", "b", "bb", "aa")] * 3 + SWAP
        self.assertEqual(crashes(TORN, "ba", writes), plain_crashes(TORN, writes))
        self.assertEqual(set(forward(TORN, "ba", writes).values()), {0, 1, 2})


class CostsTest(Case):
    def test_held_against_a_plain_search_from_each_state(self):
        ahead, behind = set(), set()
        for file, text, writes in cases():
            with self.subTest(file=parts(file), text=text, writes=writes):
                for function, goal, seen in [(forward, text, ahead), (backward, file.text, behind)]:
                    expected = plain_costs(file, writes, goal)
                    if "large" in [cost for _, cost in expected]:
                        self.assert_refused(TooLarge, function, file, text, writes)
                        continue
                    for given in (writes, list(writes)):
                        found = function(file, text, given)
                        self.assertIs(found.__class__, dict)
                        self.assertEqual(list(found.items()), expected)
                    seen.update(found.values())
        self.assertLessEqual({0, 1, 2, 5}, ahead)
        self.assertLessEqual({None, 0, 1, 2, 5}, behind)

    def test_the_states_are_those_of_crashes_in_the_same_order(self):
        for file, text, writes in cases():
            if len(file) < 3:
                states = crashes(file, text, writes)
                self.assertEqual(list(forward(file, text, writes)), states)
                self.assertEqual(list(backward(file, text, writes)), states)

    def test_0_exactly_where_the_text_is_read(self):
        for file, text, writes in cases():
            if len(file) < 3:
                for function, goal in [(forward, text), (backward, file.text)]:
                    for state, cost in function(file, text, writes).items():
                        self.assertIs(cost == 0, plain_text(*state) == goal)

    def test_the_new_text_can_be_read_before_the_last_write_is_whole(self):
        file = File("ab", ("a", ""), (0, 0), torn=True)
        writes = [("order", (0, 1, 1))]
        self.assertEqual(crashes(file, "a", writes), [(("a", ""), order) for order in [(0, 0), (0, 1), (0, 1, 1)]])
        self.assertEqual(list(forward(file, "a", writes).values()), [1, 0, 0])
        self.assertEqual(list(backward(file, "a", writes).values()), [0, 1, 1])

    def test_going_back_may_not_be_possible(self):
        # Torn, the piece "ab" leaves "a" over "c" where "c" is read, and there is no other block.
        file = File("abc", ("ab",), (0,), torn=True)
        self.assertEqual(backward(file, "c", [("piece", 0, "c")]), {(("ab",), (0,)): 0, (("c",), (0,)): None})
        self.assertEqual(list(backward(file, "a", [("piece", 0, "a")]).values()), [0, 1])
        found = []
        for file, text, writes in cases():
            if len(file) < 3:
                costs = backward(file, text, writes)
                found.extend([state for state, cost in costs.items() if cost is None])
                self.assertEqual(costs[file.pieces, file.order], 0)
        self.assertGreater(len(found), 10)

    def test_prices_and_tearing_are_those_of_the_file(self):
        for piece_price, order_price in [(1, 1), (2, 5), (5, 2)]:
            file = File("ab", ("a", "b", ""), (0, 1), piece_price=piece_price, order_price=order_price, torn=True)
            both = piece_price + order_price
            self.assertEqual(list(forward(file, "ba", SWAP).values()), [both, both, order_price, 0])
            self.assertEqual(list(backward(file, "ba", SWAP).values()), [0, 0, 0, order_price + piece_price])
        self.assertEqual(list(forward(WHOLE, "ba", SWAP).values()), [1, 1, 0])
        self.assertEqual(list(backward(WHOLE, "ba", SWAP).values()), [0, 0, 1])

    def test_letters_are_those_of_the_file(self):
        # With only two letters, there are fewer pieces, but the same costs here.
        for letters in ("ab", "abc"):
            file = File(letters, ("a",), (0,), torn=True)
            self.assertEqual(list(forward(file, "b", [("piece", 0, "b")]).values()), [1, 0])
        file = File("abc", ("a",), (0,))
        self.assertEqual(list(backward(file, "c", [("piece", 0, "c")]).values()), [0, 1])


class WorstTest(Case):
    def test_held_against_a_plain_search(self):
        several = 0
        for file, text, writes in cases():
            with self.subTest(file=parts(file), text=text, writes=writes):
                costs = plain_costs(file, writes, text)
                if "large" in [cost for _, cost in costs]:
                    self.assert_refused(TooLarge, worst, file, text, writes)
                    continue
                most = max(cost for _, cost in costs)
                dearest = [state for state, cost in costs if cost == most]
                self.assertEqual(worst(file, text, writes), (dearest[0], most))
                self.assertIs(worst(file, text, list(writes)).__class__, tuple)
                several += len(dearest) > 1
        self.assertGreater(several, 20)

    def test_the_first_one_of_several(self):
        self.assertEqual(worst(TORN, "ba", SWAP), (STATE, 2))
        self.assertEqual(worst(WHOLE, "ba", SWAP), (STATE, 1))

    def test_it_need_not_be_the_state_of_the_file(self):
        file = File("ab", ("a", "b", "ba"), (0, 1), torn=True)
        away = [("piece", 2, "bb"), ("piece", 2, "aa"), *SWAP]
        # The first state that is left with a cost of 2 is the one after the first write.
        self.assertEqual(list(forward(file, "ba", away).values()), [1, 2, 2, 2, 0])
        self.assertEqual(worst(file, "ba", away), ((("a", "b", "bb"), (0, 1)), 2))

    def test_where_going_on_is_not_possible(self):
        # A write that was torn can be done again, so that a search always finds a change: here, one finds none.
        states = crashes(TORN, "ba", SWAP)
        for missing in (states[1:2], states[2:3], states[1:3], states):
            def cost(file, text):
                return None if (file.pieces, file.order) in missing else least_cost(file, text)

            with patch("safepatch.crashes.least_cost", cost):
                self.assertEqual(worst(TORN, "ba", SWAP), (missing[0], None))

    def test_going_on_is_always_possible(self):
        for file, text, writes in cases():
            if len(file) < 3:
                self.assertNotIn(None, forward(file, text, writes).values())


class TooLargeTest(Case):
    def test_backward_alone(self):
        writes = [("order", ())]
        self.assertEqual(len(crashes(CUT, "", writes)), 2)
        self.assertEqual(list(forward(CUT, "", writes).values()), [1, 0])
        self.assertEqual(worst(CUT, "", writes), ((CUT.pieces, CUT.order), 1))
        self.assert_refused(TooLarge, backward, CUT, "", writes)

    def test_forward_and_worst(self):
        self.assert_refused(TooLarge, least_cost, SPUN, "abaaba")
        self.assertEqual(len(crashes(SPUN, "abaaba", SPUN_WRITES)), 5)
        for function in (forward, worst):
            self.assert_refused(TooLarge, function, SPUN, "abaaba", SPUN_WRITES)
        self.assertEqual(list(backward(SPUN, "abaaba", SPUN_WRITES).values()), [0, 0, 0, 0, 3])

    def test_any_state_that_needs_too_many_others(self):
        seen = set()
        for file, text, writes in cases():
            if len(file) > 2 or len(writes) < 2:
                continue
            for limit in (0, 1, 3, 10, 40):
                for function, goal in [(forward, text), (worst, text), (backward, file.text)]:
                    states = [file_like(file, state) for state in plain_crashes(file, writes)]
                    with patch(LIMIT, limit):
                        large = [self.is_large(state, goal) for state in states]
                        if any(large):
                            self.assert_refused(TooLarge, function, file, text, writes)
                            self.assertEqual(len(crashes(file, text, writes)), len(states))
                        else:
                            function(file, text, writes)
                    seen.add((function, any(large), all(large)))
        for function in (forward, worst, backward):
            self.assertLessEqual({(function, False, False), (function, True, False)}, seen)

    def is_large(self, file, text):
        """Return whether the least cost is refused."""
        try:
            least_cost(file, text)
        except TooLarge:
            return True
        return False


class RefusedTest(Case):
    def assert_index(self, index, file, text, writes):
        for function in CALLS:
            found = self.assert_refused(BadWrites, function, file, text, writes).index
            self.assertEqual((found, found.__class__), (index, index.__class__))

    def test_no_file(self):
        for function in CALLS:
            for value in NOT_FILES:
                for text, writes in [("ba", SWAP), ("c", None), (None, []), ("ab", [None])]:
                    self.assertIsNone(self.assert_refused(BadFile, function, value, text, writes).part)

    def test_no_text(self):
        for function in CALLS:
            for text in NOT_TEXTS:
                for writes in [None, [], [None], SWAP]:
                    self.assert_refused(BadGoal, function, TORN, text, writes)

    def test_letters_of_a_text_are_those_of_the_file(self):
        write = [("piece", 0, "c")]
        self.assertEqual(len(crashes(File("abc", ("a",), (0,)), "c", write)), 2)
        for function in CALLS:
            self.assert_refused(BadGoal, function, File("ab", ("a",), (0,)), "c", write)

    def test_no_list_or_tuple(self):
        for value in [*OTHER_KINDS, "", "ab", {("order", (0,)): 1}, iter(SWAP)]:
            self.assert_index(None, TORN, "ba", value)
            self.assert_index(None, TORN, "ab", value)

    def test_what_is_no_write_at_each_place(self):
        good = [("piece", 2, "a"), ("order", (2, 2)), ("piece", 2, "bb")]
        wrong = [value for value in NOT_WRITES if value not in [("piece", 2, ""), ("order", (0, 1))]]
        for value in wrong:
            for index in range(4):
                writes = good[:index] + [value] + good[index:]
                self.assert_index(index, FILE, "ba", writes)
                self.assert_index(index, FILE, FILE.text, tuple(writes))

    def test_what_changes_nothing_because_of_one_before(self):
        self.assert_index(1, TORN, "ba", [SWAP[0], SWAP[0], SWAP[1]])
        self.assert_index(2, TORN, "ba", [*SWAP, SWAP[1]])
        self.assert_index(0, TORN, "ba", [("piece", 2, ""), *SWAP])

    def test_no_change(self):
        for writes in [
            [],
            SWAP[:1],
            SWAP[1:],
            [*SWAP, ("piece", 0, "b")],
            [*SWAP, ("order", ())],
            [("piece", 2, "b"), SWAP[1]],
            [("piece", 0, "b"), *SWAP],
        ]:
            self.assert_index(len(writes), TORN, "ba", writes)
            self.assert_index(len(writes), TORN, "ba", tuple(writes))
        # Torn, this order leaves (1, 1).
        self.assert_index(1, TORN, "ba", [("order", (1, 0))])
        self.assertEqual(len(crashes(WHOLE, "ba", [("order", (1, 0))])), 2)
        # The text of the file is reached by no writes alone.
        self.assert_index(1, TORN, "ab", SWAP[:1])
        self.assert_index(2, TORN, "ab", [SWAP[0], ("piece", 2, "")])
        self.assert_index(0, TORN, "b", [])

    def test_no_write_comes_before_no_change(self):
        self.assert_index(2, TORN, "ba", [("order", ()), ("order", (0,)), None])
        self.assert_index(1, TORN, "ba", [SWAP[0], None])

    def test_no_change_comes_before_too_large(self):
        for writes in [[], [("order", (0,))], [("piece", 0, "")]]:
            self.assert_index(len(writes), SPUN, "abaaba", writes)
        self.assert_index(1, CUT, "", [("order", (0,))])

    def test_the_longest_texts(self):
        for function in CALLS:
            self.assert_refused(BadGoal, function, TORN, "abababa", SWAP)
            self.assertEqual(self.assert_refused(BadWrites, function, TORN, "ababab", SWAP).index, 2)


class KeptTest(Case):
    def test_what_a_caller_does_with_results(self):
        for function in CALLS[:3]:
            before = list(function(TORN, "ba", SWAP))
            found = function(TORN, "ba", SWAP)
            found.clear()
            self.assertEqual(list(function(TORN, "ba", SWAP)), before)
            self.assertIsNot(function(TORN, "ba", SWAP), function(TORN, "ba", SWAP))

    def test_what_a_caller_does_with_arguments(self):
        writes = list(SWAP)
        found = [function(TORN, "ba", writes) for function in CALLS]
        self.assertEqual(writes, SWAP)
        writes.pop()
        self.assertEqual(len(found[0]), 4)
        self.assertEqual([function(TORN, "ba", SWAP) for function in CALLS], found)
        for function in CALLS:
            self.assertEqual(self.assert_refused(BadWrites, function, TORN, "ba", writes).index, 1)

    def test_arguments_by_name(self):
        for function in CALLS:
            self.assertEqual(function(file=TORN, text="ba", writes=SWAP), function(TORN, "ba", SWAP))

    def test_files_do_not_change(self):
        before = parts(TORN)
        for function in CALLS:
            function(TORN, "ba", SWAP)
        self.assertEqual(parts(TORN), before)


if __name__ == "__main__":
    unittest.main()
