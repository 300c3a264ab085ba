"""Tests of the limit of 2000 states in [7] and [9], and that searches stop as soon as their answer is certain."""

import random
import unittest
from functools import lru_cache
from unittest.mock import patch

from safepatch.errors import NoChange, TooLarge
from safepatch.files import File
from safepatch.moves import Moves
from safepatch.plans import NoPlan, can_change, least_cost, musts, plan
from safepatch.tours import NoTour, alone, tour, tour_cost
from safepatch.ways import MOST_NODES
from tests.samples import Case, Plain, parts, random_files, random_text

LIMIT = "safepatch.ways.MOST_NODES"
# Files and texts at, below and beyond the limit: how many states count, and what a change would cost.
STATES = [
    (File("abc", ("b", "cc", "aa"), (0, 0)), "cbcaac", 1752, None),
    (File("abc", ("b", "aa", "bc", "aa"), (3, 0, 0), piece_price=5, order_price=5), "bbabcc", 1968, 25),
    (File("abc", ("cc", "cc", "c", "bb"), (0, 2), piece_price=5, order_price=4), "bcabbb", 2000, 18),
    (File("ab", ("bb", "", "bb", "b"), (), piece_price=4, order_price=3), "abaaba", 2011, 15),
    (File("abc", ("aa", "ab", "b", "bb"), (2, 1), piece_price=2, torn=True), "aabaab", 2340, None),
]
# The same for tours.
SPOTS = [
    (File("ab", ("bb", "", "b", "b"), (0, 1, 2), piece_price=3, order_price=2, torn=True), ["bab", "aaa"], 1848, None),
    (File("abc", ("bb", "", "a"), (1, 2), order_price=3), ["c", "aa", "bac"], 1978, 9),
    (File("ab", ("ba", "a", "bb", "ba"), (3, 0), piece_price=4, order_price=4), ["ba", "bb", "", "b"], 2008, 16),
    (File("abc", ("cc", "bc", "bc"), (1, 1), piece_price=2, torn=True), ["b", "ab", "bac"], 2007, None),
]
# Some spots are found at a dear cost first and at a cheaper one later; they count once.
CHEAPER_LATER = [
    (File("ab", ("ab",), (0,), piece_price=3, torn=True), ["", "a", ""]),
    (File("ab", ("bb",), (0,), piece_price=4), ["", "b", "a"]),
    (File("ab", ("ba",), (0, 0), order_price=4), ["", "bababa", "ba", "aa"]),
    (File("ab", ("a",), (0, 0, 0), order_price=3, torn=True), ["", "a", "aba"]),
    (File("ab", ("bb",), (0, 0), order_price=3, torn=True), ["bb", "", "baabb"]),
]
KINDS = {("ab", 1): 10, ("ab", 2): 14, ("ab", 3): 5, ("abc", 1): 5, ("abc", 2): 6}


@lru_cache(maxsize=None)
def cases():
    """Return files and texts with what the plain search says without a limit: the answer, the costs of open spots."""
    chance = random.Random(21)
    found = [(Plain(file), texts, *Plain(file).search(texts, 10**9)) for file, texts in CHEAPER_LATER]
    for file in random_files(22, KINDS):
        plain = Plain(file)
        for _ in range(5):
            texts = [random_text(chance, file) for _ in range(chance.choice([1, 1, 2, 3]))]
            passed = [file.text, *texts]
            if all(one != other for one, other in zip(passed, texts)):
                found.append((plain, texts, *plain.search(texts, 10**9)))
    return [case for case in found if len(case[3]) <= 150]


def calls_for(file, texts):
    """Return the calls that need the search for a tour through some texts, or for a change to a single one."""
    found = [lambda: tour(file, texts), lambda: tour_cost(file, texts)]
    if len(texts) == 1:
        [text] = texts
        found += [lambda: plan(file, text), lambda: least_cost(file, text), lambda: can_change(file, text)]
        found += [lambda: alone(file, texts), lambda: musts(file, text)]
    return found


class LimitTest(Case):
    def test_the_limit(self):
        self.assertEqual(MOST_NODES, 2000)

    def test_states_at_below_and_beyond_the_limit(self):
        for file, text, many, cost in STATES:
            with self.subTest(file=parts(file), text=text):
                answer, costs = Plain(file).search([text], 10**9)
                self.assertEqual((answer, len(costs)), (cost, many))
                if many > 2000:
                    for call in calls_for(file, [text]):
                        self.assert_refused(TooLarge, call)
                    continue
                self.assertEqual(least_cost(file, text), cost)
                self.assertIs(can_change(file, text), cost is not None)
                self.assertEqual(alone(file, [text]), [cost])
                found = plan(file, text)
                self.assertIs(found.__class__ is NoPlan, cost is None)
                self.assertTrue(found.shows(file, text))
                if cost is None:
                    self.assert_refused(NoChange, musts, file, text)
                else:
                    self.assertLessEqual(set(musts(file, text)), set(found.writes))

    def test_spots_at_below_and_beyond_the_limit(self):
        for file, texts, many, cost in SPOTS:
            with self.subTest(file=parts(file), texts=texts):
                answer, costs = Plain(file).search(texts, 10**9)
                self.assertEqual((answer, len(costs)), (cost, many))
                if many > 2000:
                    for call in calls_for(file, texts):
                        self.assert_refused(TooLarge, call)
                    continue
                self.assertEqual(tour_cost(file, texts), cost)
                found = tour(file, texts)
                self.assertIs(found.__class__ is NoTour, cost is None)
                self.assertTrue(found.shows(file, texts))

    def test_more_states_at_a_greater_cost_do_not_matter(self):
        file = File("abc", ("a", "", "", ""), (0,), torn=True)
        plain = Plain(file)
        reached = {plain.start}
        for _ in range(3):
            steps = [after for spot in reached for _, _, after in plain.steps(spot, [""])]
            reached |= {after for after in steps if plain.is_open(after, [""])}
        # Three writes lead to more than 2000 states, but a change has only one.
        self.assertGreater(len(reached), 2000)
        self.assertEqual(least_cost(file, ""), 1)
        self.assertIs(can_change(file, ""), True)
        self.assertTrue(plan(file, "").shows(file, ""))
        self.assertEqual(musts(file, ""), [])
        self.assertEqual(tour_cost(file, ["", "a"]), 2)
        self.assertEqual(alone(file, ["", "a", "b"]), [1, 0, 1])
        # To this text, more than one write is needed, and these states are too many.
        self.assert_refused(TooLarge, least_cost, file, "bcbcbc")

    def test_the_dearest_writes_that_count_cost_less_than_the_change(self):
        # Without a limit of 2000, the same holds for each other limit: n states are allowed, but not one more.
        seen = set()
        for plain, texts, answer, costs in cases():
            many = len(costs)
            with self.subTest(file=parts(plain.file), texts=texts):
                for limit in {many - 1, many, many + 1, many // 2}:
                    expected = plain.search(texts, limit)[0]
                    self.assertEqual(expected == "large", limit < many)
                    with patch(LIMIT, limit):
                        self.assert_limited(plain.file, texts, expected)
                    seen.add((expected == "large", answer is None, len(texts)))
        expected = {(large, none, many) for large in (False, True) for none in (False, True) for many in (1, 2, 3)}
        self.assertLessEqual(expected, seen)

    def assert_limited(self, file, texts, expected):
        """Assert that all functions give what is expected, or TooLarge."""
        if expected == "large":
            for call in calls_for(file, texts):
                self.assert_refused(TooLarge, call)
            return
        self.assertEqual(tour_cost(file, texts), expected)
        self.assertTrue(tour(file, texts).shows(file, texts))
        if len(texts) == 1:
            self.assertEqual(least_cost(file, texts[0]), expected)
            self.assertIs(can_change(file, texts[0]), expected is not None)
            self.assertTrue(plan(file, texts[0]).shows(file, texts[0]))
            self.assertEqual(alone(file, texts), [expected])

    def test_alone_with_several_texts(self):
        for plain, texts, _, _ in cases():
            many = [len(plain.search([text], 10**9)[1]) for text in texts]
            for limit in {max(many), max(many) - 1, min(many)}:
                expected = [plain.search([text], limit)[0] for text in texts]
                with patch(LIMIT, limit):
                    if "large" in expected:
                        self.assert_refused(TooLarge, alone, plain.file, texts)
                    else:
                        self.assertEqual(alone(plain.file, texts), expected)

    def test_own_text_is_never_too_large(self):
        for file, _, _, _ in STATES:
            with patch(LIMIT, 0):
                self.assertEqual(least_cost(file, file.text), 0)
                self.assertIs(can_change(file, file.text), True)
                self.assertTrue(plan(file, file.text).shows(file, file.text))
                self.assertEqual(musts(file, file.text), [])


class CertainTest(Case):
    def searched(self, function, *arguments):
        """Return the states from which a call takes steps, in order, and what it returns or that it is refused."""
        with patch.object(Moves, "safe", autospec=True, side_effect=Moves.safe) as safe:
            try:
                found = function(*arguments)
            except TooLarge:
                found = TooLarge
        return [call.args[1:] for call in safe.call_args_list], found

    def test_never_further_than_needed(self):
        for plain, texts, answer, costs in cases():
            file = plain.file
            states, found = self.searched(tour_cost, file, texts)
            self.assertEqual(found, answer)
            self.assertEqual(len(states), len(set(states)))
            least = min(file.piece_price, file.order_price)
            needed = [spot for spot in costs if answer is None or costs[spot] <= answer - least]
            self.assertLessEqual(len(states), len(needed))

    def test_the_first_way_that_cannot_be_undercut_is_enough(self):
        # Many states cost 1, and one of the first of them leads to the new text at a cost of 2: no other one is tried.
        file = File("ab", ("a", "b", ""), (0, 1), torn=True)
        _, costs = Plain(file).search(["ba"])
        states, found = self.searched(least_cost, file, "ba")
        self.assertEqual(found, 2)
        self.assertLess(len(states), len([cost for cost in costs.values() if cost == 1]))

    def test_a_single_write_needs_a_single_state(self):
        file = File("abc", ("a", "b", "c", ""), (0, 1, 2), piece_price=5, torn=True)
        self.assertEqual(len(self.searched(least_cost, file, "")[0]), 1)
        self.assertEqual(len(self.searched(plan, file, "")[0]), 1)
        self.assertEqual(self.searched(least_cost, file, file.text), ([], 0))

    def test_never_more_than_the_limit(self):
        for file, text, _, _ in STATES:
            states, _ = self.searched(least_cost, file, text)
            self.assertLessEqual(len(states), 2000)
            self.assertEqual(len(states), len(set(states)))

    def test_too_large_as_soon_as_it_is_certain(self):
        dear = File("abc", ("a", "", "", ""), (0,), piece_price=3, order_price=5, torn=True)
        for file, text in [(dear, "bcbcbc"), (STATES[-1][0], STATES[-1][1])]:
            least = min(file.piece_price, file.order_price)
            answer, costs = Plain(file).search([text])
            self.assertEqual(answer, "large")
            states, found = self.searched(least_cost, file, text)
            self.assertIs(found, TooLarge)
            # What is needed are only the states from which a change could still cost too little.
            needed = [spot for spot, cost in costs.items() if cost <= max(costs.values()) - least]
            self.assertLessEqual(len(states), len(needed))


if __name__ == "__main__":
    unittest.main()
