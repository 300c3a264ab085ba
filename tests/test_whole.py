"""Tests of what [1] says of the whole program: arguments, results, equality, and calls that are refused."""

import copy
import unittest

from safepatch.crashes import backward, crashes, forward, worst
from safepatch.errors import BadFile, PatchError
from safepatch.files import File
from safepatch.plans import NoPlan, Plan, can_change, is_change, least_cost, musts, plan
from safepatch.sessions import Session
from safepatch.spares import best_spares, fewest_spares, spare_costs
from safepatch.texts import file_text, read_file, read_writes, writes_text
from safepatch.tidying import NoTidying, Tidying, orders_of_text, tidy, tidy_cost
from safepatch.tours import NoTour, Tour, alone, tour, tour_cost
from safepatch.writes import after, all_writes, apply, cost_of, is_safe, is_write, safe_writes, torn_texts
from tests.samples import NOT_FILES, OTHER_KINDS, Case, parts

TORN = File("ab", ("a", "b", ""), (0, 1), torn=True)
STATE = (("a", "b", ""), (0, 1))
GOAL = (("ab", "b", ""), (0,))
FILL, TURN = ("piece", 2, "ba"), ("order", (2,))
LINES = "letters ab\npiece a\norder 0\npiece_price 1\norder_price 1\ntorn no\n"
# Each function of a file, with other arguments that are right.
CALLS = [
    (all_writes, ()),
    (is_write, (FILL,)),
    (after, (FILL,)),
    (torn_texts, (TURN,)),
    (is_safe, (FILL, "ba")),
    (safe_writes, ("ba",)),
    (apply, ([FILL, TURN],)),
    (cost_of, ([FILL, TURN],)),
    (plan, ("ba",)),
    (least_cost, ("ba",)),
    (can_change, ("ba",)),
    (musts, ("ba",)),
    (is_change, ("ba", [FILL, TURN])),
    (Plan((FILL, TURN), {STATE: 2}).shows, ("ba",)),
    (NoPlan([STATE]).shows, ("ba",)),
    (tour, (["ba", "ab"],)),
    (tour_cost, (["ba", "ab"],)),
    (alone, (["ba", "ab"],)),
    (Tour([(FILL, TURN)], {(0, STATE): 2}).shows, (["ba"],)),
    (NoTour([(0, STATE)]).shows, (["ba"],)),
    (tidy, (GOAL,)),
    (tidy_cost, (GOAL,)),
    (orders_of_text, ()),
    (Tidying((FILL,), {STATE: 1}).shows, ((("a", "b", "ba"), (0, 1)),)),
    (NoTidying([STATE]).shows, (GOAL,)),
    (crashes, ("ba", [FILL, TURN])),
    (forward, ("ba", [FILL, TURN])),
    (backward, ("ba", [FILL, TURN])),
    (worst, ("ba", [FILL, TURN])),
    (spare_costs, ("ba",)),
    (fewest_spares, ("ba",)),
    (best_spares, ("ba",)),
    (Session, ()),
    (file_text, ()),
    (writes_text, ([FILL, TURN],)),
    (read_writes, ("piece 2 ba\norder 2\n",)),
]


def inner(value):
    """Return the lists and dicts that a result is or has as attributes."""
    values = [value, *vars(value).values()] if hasattr(value, "__dict__") else [value]
    return [one for one in values if isinstance(one, (list, dict))]


class ObjectsTest(unittest.TestCase):
    def made(self):
        """Return new objects of each class, with attributes that are as equal as they can be."""
        return [
            TORN,
            Plan((), {}),
            NoPlan([]),
            Tour((), {}),
            NoTour([]),
            Tidying((), {}),
            NoTidying([]),
            Session(TORN),
            Session(TORN).trial(),
            BadFile(None),
        ]

    def test_objects_of_different_classes_are_not_equal(self):
        for at, one in enumerate(self.made()):
            for other in [*self.made()[:at], *self.made()[at + 1:], *OTHER_KINDS, (), [], ""]:
                self.assertIs(one == other, False)
                self.assertIs(other == one, False)
                self.assertIs(one != other, True)
                self.assertIs(other != one, True)

    def test_unequal_is_the_opposite_of_equal(self):
        for one, other in zip(self.made(), self.made()):
            self.assertIs(one != other, not one == other)
            self.assertTrue(one == one)
            self.assertFalse(one != one)


class CallsTest(Case):
    def test_results_are_new_and_the_same_again(self):
        for function, more in CALLS:
            with self.subTest(function=function):
                found, again = function(TORN, *more), function(TORN, *more)
                if function is not Session:
                    self.assertEqual(found, again)
                for one, other in zip(inner(found), inner(again)):
                    self.assertIsNot(one, other)

    def test_results_can_be_changed_without_consequences(self):
        for function, more in CALLS:
            before = copy.deepcopy(function(TORN, *more))
            for value in inner(function(TORN, *more)):
                value.clear()
            if function is not Session:
                with self.subTest(function=function):
                    self.assertEqual(function(TORN, *more), before)

    def test_arguments_are_not_modified(self):
        shown = parts(TORN)
        for function, more in CALLS:
            before = copy.deepcopy(more)
            function(TORN, *more)
            with self.subTest(function=function):
                self.assertEqual(more, before)
                self.assertEqual(parts(TORN), shown)

    def test_no_file_comes_first(self):
        # Whatever the other arguments are, also if they are wrong themselves.
        for function, more in CALLS:
            for value in NOT_FILES:
                for others in [more, [None] * len(more), ["c"] * len(more), [[None]] * len(more)]:
                    self.assertIsNone(self.assert_refused(BadFile, function, value, *others).part)

    def test_other_arguments_that_are_wrong(self):
        for function, more in CALLS:
            for at in range(len(more)):
                for value in [None, True, 7, b"ab", {}, object(), "abc", [None], (None,)]:
                    if function is not is_write:
                        with self.subTest(function=function, at=at, value=value):
                            with self.assertRaises(PatchError):
                                function(TORN, *more[:at], value, *more[at + 1:])

    def test_a_file_that_is_read_is_as_good_as_any_other(self):
        file = read_file(file_text(TORN))
        self.assertEqual(file, TORN)
        for function, more in CALLS:
            if function is not Session:
                self.assertEqual(function(file, *more), function(TORN, *more))
        self.assertEqual(Session(read_file(LINES)).current, File("ab", ("a",), (0,)))


if __name__ == "__main__":
    unittest.main()
