"""Tests of safepatch.spares: what changes cost with more blocks ([12])."""

import random
import unittest
from functools import lru_cache
from unittest.mock import patch

from safepatch.errors import BadFile, BadGoal, TooLarge
from safepatch.files import File
from safepatch.plans import least_cost
from safepatch.spares import best_spares, fewest_spares, spare_costs
from tests.samples import NOT_FILES, NOT_TEXTS, Case, Plain, parts, random_files, random_text

# Of the last example of the interface, which test_texts.py has whole, what needs only files and spares.
EXAMPLE = """
>>> from safepatch.files import File
>>> from safepatch.spares import best_spares, fewest_spares, spare_costs
>>> file = File('ab', ('a', 'b'), (0, 1), order_price=2, torn=True)
>>> [spare_costs(file, 'ba'), fewest_spares(file, 'ba'), best_spares(file, 'a')]
[[None, 3, 3], 1, (0, 1)]
"""

LIMIT = "safepatch.ways.MOST_NODES"
KINDS = {("ab", 1): 4, ("ab", 2): 9, ("ab", 3): 10, ("ab", 4): 1, ("abc", 2): 1, ("abc", 3): 2}
CALLS = [spare_costs, fewest_spares, best_spares]
TIGHT = File("ab", ("a", "b"), (0, 1), torn=True)
FULL = File("ab", ("a", "b", "ab", "b"), (0, 1), torn=True)
# To the text "a", it costs 4 with one or two more blocks, but with three more too many states count.
WIDE = File("abc", ("c",), (0, 0), order_price=3, torn=True)
# A file and a text that are refused with any number of blocks; the same with four.
VAST = File("abc", ("aa", "ab", "b", "bb"), (2, 1), piece_price=2, torn=True)
VAST_TEXT = "aabaab"


def with_more(file, more):
    """Return the file with so many more blocks, from [12] alone."""
    prices = {"piece_price": file.piece_price, "order_price": file.order_price}
    return File(file.letters, file.pieces + ("",) * more, file.order, **prices, torn=file.torn)


@lru_cache(maxsize=None)
def cases():
    """Return files, texts and what a plain search says for each number of blocks."""
    chance = random.Random(51)
    found = []
    for file in random_files(52, KINDS):
        for text in sorted({file.text, *[random_text(chance, file) for _ in range(2)]}):
            files = [with_more(file, more) for more in range(5 - len(file.pieces))]
            found.append((file, text, [Plain(one).search([text])[0] for one in files]))
    return found


class ExampleTest(Case):
    def test_the_example_of_the_interface(self):
        self.assert_example(EXAMPLE, 4)


class SparesTest(Case):
    def test_held_against_a_plain_search(self):
        seen = set()
        for file, text, costs in cases():
            with self.subTest(file=parts(file), text=text):
                if "large" in costs:
                    for function in CALLS:
                        self.assert_refused(TooLarge, function, file, text)
                    seen.add("large")
                    continue
                found = spare_costs(file, text)
                self.assertIs(found.__class__, list)
                self.assertEqual(found, costs)
                known = [cost for cost in costs if cost is not None]
                if not known:
                    self.assertIsNone(fewest_spares(file, text))
                    self.assertIsNone(best_spares(file, text))
                    seen.add("none")
                    continue
                fewest, best = costs.index(known[0]), costs.index(min(known))
                self.assertEqual(fewest_spares(file, text), fewest)
                self.assertEqual(best_spares(file, text), (best, min(known)))
                self.assertIs(best_spares(file, text).__class__, tuple)
                seen.update([("fewest", fewest), ("best", best), fewest < best])
        kinds = {"none", "large", False, True, ("fewest", 0), ("fewest", 1), ("best", 0), ("best", 1), ("best", 2)}
        self.assertLessEqual(kinds, seen)

    def test_as_many_costs_as_numbers_of_blocks(self):
        for blocks in range(1, 5):
            file = File("ab", ("a",) * blocks, (0,))
            self.assertEqual(spare_costs(file, "a"), [0] * (5 - blocks))
            self.assertEqual(len(spare_costs(file, "")), 5 - blocks)

    def test_own_text(self):
        for file in random_files(53, KINDS):
            self.assertEqual(spare_costs(file, file.text), [0] * (5 - len(file)))
            self.assertEqual(fewest_spares(file, file.text), 0)
            self.assertEqual(best_spares(file, file.text), (0, 0))

    def test_by_hand(self):
        self.assertEqual(spare_costs(TIGHT, "ba"), [None, 2, 2])
        self.assertEqual([fewest_spares(TIGHT, "ba"), best_spares(TIGHT, "ba")], [1, (1, 2)])
        # Each of these texts has other pieces than the file, which have to be written first: one, two or three.
        file = File("ab", ("a",), (0,), order_price=5)
        for text, costs in [("bbbb", [None, 6, 6, 6]), ("bbab", [None, None, 7, 7]), ("bbabaa", [None, None, None, 8])]:
            self.assertEqual(spare_costs(file, text), costs)
            more = costs.count(None)
            self.assertEqual((fewest_spares(file, text), best_spares(file, text)), (more, (more, costs[-1])))

    def test_four_blocks_have_no_spares(self):
        for text in ("ba", "ab", "bb", "abab"):
            cost = least_cost(FULL, text)
            self.assertEqual(spare_costs(FULL, text), [cost])
            self.assertEqual(fewest_spares(FULL, text), 0)
            self.assertEqual(best_spares(FULL, text), (0, cost))

    def test_no_change_with_any_number(self):
        whole, torn = [File("ab", ("ab", "ba", "a"), (0, 1, 2), torn=torn) for torn in (False, True)]
        self.assertEqual(spare_costs(torn, "bbbb"), [None, None])
        self.assertIsNone(fewest_spares(torn, "bbbb"))
        self.assertIsNone(best_spares(torn, "bbbb"))
        # Where writes cannot be torn, one more block is enough.
        self.assertEqual(spare_costs(whole, "bbbb"), [None, 2])

    def test_fewest_and_cheapest_can_differ(self):
        # With one block, the order has to be empty while its piece is written; with another one, it need not.
        file = File("ab", ("",), (0,), piece_price=2, order_price=2, torn=True)
        self.assertEqual(spare_costs(file, "ab"), [6, 4, 4, 4])
        self.assertEqual((fewest_spares(file, "ab"), best_spares(file, "ab")), (0, (1, 4)))
        file = File("ab", ("ba", "aa"), (1,), order_price=4)
        self.assertEqual(spare_costs(file, "babaa"), [10, 5, 5])
        self.assertEqual((fewest_spares(file, "babaa"), best_spares(file, "babaa")), (0, (1, 5)))

    def test_all_else_is_as_in_the_file(self):
        for order_price in (1, 2, 5):
            for piece_price in (1, 4):
                file = File("ab", ("a", "b"), (0, 1), piece_price=piece_price, order_price=order_price, torn=True)
                self.assertEqual(spare_costs(file, "ba")[1:], [piece_price + order_price] * 2)
        self.assertEqual(spare_costs(File("ab", ("a", "b"), (0, 1), order_price=3), "ba"), [3, 3, 3])
        self.assertEqual(spare_costs(File("abc", ("a", "b"), (0, 1)), "c"), [None, 2, 2])


class RefusedTest(Case):
    def test_no_file(self):
        for function in CALLS:
            for value in NOT_FILES:
                for text in ["ab", *NOT_TEXTS[::3]]:
                    self.assertIsNone(self.assert_refused(BadFile, function, value, text).part)

    def test_no_text(self):
        for function in CALLS:
            for text in NOT_TEXTS:
                for file in (TIGHT, FULL):
                    self.assert_refused(BadGoal, function, file, text)

    def test_letters_of_a_text_are_those_of_the_file(self):
        for function in CALLS:
            function(File("abc", ("a",), (0,)), "c")
            self.assert_refused(BadGoal, function, File("ab", ("a",), (0,)), "c")

    def test_bad_goal_comes_before_too_large(self):
        for function in CALLS:
            self.assert_refused(BadGoal, function, VAST, VAST_TEXT + "a")

    def test_too_large_with_no_more_blocks(self):
        for function in CALLS:
            self.assert_refused(TooLarge, function, VAST, VAST_TEXT)

    def test_too_large_only_with_more_blocks(self):
        self.assertEqual([least_cost(with_more(WIDE, more), "a") for more in range(3)], [None, 4, 4])
        self.assert_refused(TooLarge, least_cost, with_more(WIDE, 3), "a")
        # What fewer blocks answer does not matter.
        for function in CALLS:
            self.assert_refused(TooLarge, function, WIDE, "a")
        cut = File("ab", ("aa",), (), order_price=5)
        self.assertEqual([least_cost(with_more(cut, more), "aa") for more in range(3)], [5, 5, 5])
        for function in CALLS:
            self.assert_refused(TooLarge, function, cut, "aa")

    def test_any_of_the_files(self):
        seen = set()
        for file, text, costs in cases()[::3]:
            if "large" in costs or len(file) > 3:
                continue
            for limit in (0, 4, 40):
                with patch(LIMIT, limit):
                    large = [self.is_large(with_more(file, more), text) for more in range(5 - len(file))]
                    for function in CALLS:
                        if any(large):
                            self.assert_refused(TooLarge, function, file, text)
                        else:
                            function(file, text)
                seen.add((large[0], any(large)))
        self.assertLessEqual({(False, False), (False, True), (True, True)}, seen)

    def is_large(self, file, text):
        """Return whether the least cost is refused."""
        try:
            least_cost(file, text)
        except TooLarge:
            return True
        return False


class KeptTest(Case):
    def test_the_list_is_new(self):
        spare_costs(TIGHT, "ba").clear()
        self.assertEqual(spare_costs(TIGHT, "ba"), [None, 2, 2])
        self.assertIsNot(spare_costs(TIGHT, "ba"), spare_costs(TIGHT, "ba"))

    def test_files_do_not_change(self):
        before = parts(TIGHT)
        for function in CALLS:
            function(TIGHT, "ba")
        self.assertEqual(parts(TIGHT), before)

    def test_arguments_by_name(self):
        for function in CALLS:
            self.assertEqual(function(file=TIGHT, text="ba"), function(TIGHT, "ba"))


if __name__ == "__main__":
    unittest.main()
