"""Tests of safepatch.tours: tours through several texts ([9]), and what the cheapest changes alone cost."""

import random
import unittest
from functools import lru_cache

from safepatch.errors import BadFile, BadTexts, TooLarge
from safepatch.files import File
from safepatch.plans import NoPlan, Plan, least_cost, plan
from safepatch.tours import NoTour, Tour, alone, tour, tour_cost
from safepatch.writes import after, apply, cost_of, safe_writes
from tests.samples import (
    FILE,
    NOT_FILES,
    NOT_TEXTS,
    OTHER_KINDS,
    Case,
    Plain,
    parts,
    plain_text,
    plain_writes,
    random_files,
    random_text,
)

# The example of the interface, as it stands there.
EXAMPLE = """
>>> from safepatch.files import File
>>> from safepatch.tours import Tour, alone, tour, tour_cost
>>> file = File('ab', ('a', 'b', ''), (0, 1), torn=True)
>>> found = Tour([(('piece', 2, 'ba'), ('order', (2,))), (('order', (0, 1)),)], {(0, (('a', 'b', ''), (0, 1))): 3})
>>> [tour_cost(file, ['ba', 'ab']), alone(file, ['ba', 'ab', 'b']), tour(file, ['ba', 'ab']).shows(file, ['ba', 'ab']), found.shows(file, ['ba', 'ab']), tour_cost(File('ab', ('a', 'b'), (0, 1), torn=True), ['ba'])]
[4, [2, 0, 1], True, False, None]
"""

KINDS = {("ab", 1): 12, ("ab", 2): 16, ("ab", 3): 5, ("abc", 1): 6, ("abc", 2): 6, ("abc", 3): 1, ("ab", 4): 1}
TORN = File("ab", ("a", "b", ""), (0, 1), torn=True)
SPOT = (0, (("a", "b", ""), (0, 1)))
TIGHT = File("ab", ("a", "b"), (0, 1), torn=True)
TIGHT_SPOT = (0, (("a", "b"), (0, 1)))
FORTH = (("piece", 2, "ba"), ("order", (2,)))
BACK = (("piece", 0, "ab"), ("order", (0,)))
# Here one by one is dearer: an empty order costs less than an empty piece, but then the next change costs more.
SHORT = File("ab", ("ab",), (0,), piece_price=3, order_price=2, torn=True)
# With too many spots, to the first text as well as to the second one; there is no change to either.
VAST = File("abc", ("aa", "ab", "b", "bb"), (2, 1), piece_price=2, torn=True)
VAST_TEXT = "aabaab"


def some_texts(chance, file):
    """Return one to four texts by chance, often with one that comes again, or with that of the file at the end."""
    first, second = random_text(chance, file), random_text(chance, file)
    kinds = [
        [first],
        [first, second],
        [first, file.text],
        [first, second, first],
        [first, second, file.text],
        [first, file.text, second, file.text],
        [random_text(chance, file) for _ in range(4)],
    ]
    return chance.choice(kinds)


@lru_cache(maxsize=None)
def cases():
    """Return files and texts with what the plain search says: the plain file, the texts, the answer, the costs."""
    chance = random.Random(4)
    found = []
    for file in random_files(9, KINDS):
        plain = Plain(file)
        for _ in range(7):
            texts = some_texts(chance, file)
            passed = [file.text, *texts]
            if all(one != other for one, other in zip(passed, texts)):
                found.append((plain, texts, *plain.search(texts)))
    return found


def small_cases(most):
    """Return the cases that are not too large, and whose answer depends on at most so many spots."""
    return [case for case in cases() if case[2] != "large" and len(case[3]) <= most]


def tours(most):
    """Return the plain file, the texts, the cost and the Tour of many cases."""
    return [(plain, texts, cost, tour(plain.file, texts)) for plain, texts, cost, _ in small_cases(most) if cost]


def no_tours(most):
    """Return the plain file, the texts and the NoTour of many cases."""
    return [(plain, texts, tour(plain.file, texts)) for plain, texts, cost, _ in small_cases(most) if cost is None]


class ExampleTest(Case):
    def test_the_example_of_the_interface(self):
        self.assert_example(EXAMPLE, 5)


class TourTest(Case):
    def test_held_against_a_plain_search(self):
        kinds = set()
        for plain, texts, answer, _ in cases():
            file = plain.file
            with self.subTest(file=parts(file), texts=texts):
                if answer == "large":
                    self.assert_refused(TooLarge, tour, file, texts)
                    self.assert_refused(TooLarge, tour_cost, file, texts)
                    continue
                self.assertEqual(tour_cost(file, texts), answer)
                found = tour(file, tuple(texts))
                self.assertIs(found.__class__, NoTour if answer is None else Tour)
                self.assertIs(found.shows(file, texts), True)
                if answer is None:
                    self.assertIs(found.spots.__class__, list)
                    self.assertTrue(plain.shows_none(texts, found.spots))
                else:
                    self.assertEqual({part.__class__ for part in found.parts}, {tuple})
                    self.assertEqual((found.parts.__class__, found.floors.__class__), (list, dict))
                    self.assertTrue(plain.shows(texts, found.parts, found.floors))
                    self.assertEqual(plain.cost_of(found.parts), answer)
                kinds.add((len(texts), answer is None))
        self.assertEqual(kinds, {(many, none) for many in (1, 2, 3, 4) for none in (False, True)})

    def test_a_tuple_of_texts_is_as_good_as_a_list(self):
        for texts in [["ba"], ["ba", "ab"], ["a", "ab", "a", ""]]:
            given = tuple(texts)
            self.assertEqual(tour_cost(TORN, given), tour_cost(TORN, texts))
            self.assertEqual(tour(TORN, given), tour(TORN, texts))
            self.assertTrue(tour(TORN, texts).shows(TORN, given))
            self.assertFalse(NoTour([SPOT]).shows(TORN, given))

    def test_one_text_is_a_plan(self):
        for plain, texts, answer, _ in small_cases(100):
            self.assertEqual(tour_cost(plain.file, texts[:1]), least_cost(plain.file, texts[0]))
            if answer and len(texts) == 1:
                [writes] = tour(plain.file, texts).parts
                self.assertEqual(cost_of(plain.file, writes), least_cost(plain.file, texts[0]))

    def test_a_text_that_comes_again_and_that_of_the_file(self):
        self.assertEqual([tour_cost(TORN, texts) for texts in [["a"], ["a", "ab"], ["a", "ab", "a", "ab"]]], [1, 2, 4])
        self.assertEqual(tour_cost(TORN, ["ba", "ab", "ba", "ab"]), 6)
        self.assertEqual(tour_cost(TORN, ("a", "", "a", "")), 4)
        self.assertTrue(Tour([FORTH, BACK], tour(TORN, ["ba", "ab"]).floors).shows(TORN, ["ba", "ab"]))

    def test_cheaper_than_one_by_one(self):
        # To the empty text by its order (2), then a piece that is not seen (3) and the order again (2) ..
        self.assertEqual((least_cost(SHORT, ""), plan(SHORT, "").writes), (2, (("order", ()),)))
        self.assertEqual(least_cost(apply(SHORT, plan(SHORT, "").writes), "a"), 5)
        # .. or the piece alone, twice.
        self.assertEqual(tour_cost(SHORT, ["", "a"]), 6)
        self.assertEqual(tour(SHORT, ["", "a"]).parts, [(("piece", 0, ""),), (("piece", 0, "a"),)])

    def test_never_dearer_than_one_by_one(self):
        cheaper = 0
        for plain, texts, answer, _ in small_cases(200):
            file, total = plain.file, 0
            for text in texts:
                cost = least_cost(file, text)
                if cost is None:
                    break
                file, total = apply(file, plan(file, text).writes), total + cost
            else:
                self.assertLessEqual(answer, total)
                cheaper += answer < total
        self.assertGreater(cheaper, 0)

    def test_no_tour(self):
        self.assertIsNone(tour_cost(TIGHT, ["ba"]))
        self.assertEqual(tour(TIGHT, ["ba"]), NoTour([TIGHT_SPOT]))
        # The first text can be reached, the second one cannot.
        found = tour(TIGHT, ["", "aaaaa"])
        self.assertIs(found.__class__, NoTour)
        self.assertIn(TIGHT_SPOT, found.spots)
        self.assertEqual({stage for stage, _ in found.spots}, {0, 1})

    def test_no_tour_although_each_text_can_be_reached_alone(self):
        file = File("ab", ("", "a"), (1, 1), piece_price=2, order_price=5, torn=True)
        self.assertEqual(alone(file, ["bb", "aaa"]), [2, 5])
        self.assertIsNone(tour_cost(file, ["bb", "aaa"]))
        self.assertIs(tour(file, ["bb", "aaa"]).__class__, NoTour)


class AloneTest(Case):
    def test_held_against_a_plain_search(self):
        seen = set()
        for plain, texts, _, _ in cases():
            if len(plain.file) > 2:
                continue
            expected = [plain.search([text])[0] for text in texts]
            with self.subTest(file=parts(plain.file), texts=texts):
                if "large" in expected:
                    self.assert_refused(TooLarge, alone, plain.file, texts)
                else:
                    for given in (texts, tuple(texts)):
                        self.assertEqual(alone(plain.file, given), expected)
            seen.update(expected)
        self.assertLessEqual({None, 0, 1, 2}, seen)

    def test_own_text_costs_nothing(self):
        self.assertEqual(alone(TORN, ["a", "ab", "ba", "ab"]), [1, 0, 2, 0])
        self.assertEqual(alone(TIGHT, ("ba", "ab")), [None, 0])

    def test_from_the_file_itself(self):
        self.assertEqual(alone(SHORT, ["", "a"]), [2, 3])
        self.assertEqual(tour_cost(SHORT, ["", "a"]), 6)

    def test_too_large_for_any_of_the_texts(self):
        near = "b"
        self.assertEqual(alone(VAST, [near]), [least_cost(VAST, near)])
        for texts in [[VAST_TEXT], [near, VAST_TEXT], [near, VAST_TEXT, near], [VAST_TEXT, near]]:
            self.assert_refused(TooLarge, alone, VAST, texts)

    def test_the_list_is_new(self):
        found = alone(TORN, ["ba", "ab"])
        found.clear()
        self.assertEqual(alone(TORN, ["ba", "ab"]), [2, 0])


class TourShowsTest(Case):
    def assert_as_plain(self, plain, texts, given, floors):
        shown = Tour(given, floors).shows(plain.file, texts)
        self.assertIs(shown, plain.shows(texts, given, floors))
        return shown

    def test_the_dict_in_another_order(self):
        for plain, texts, _, found in tours(100):
            turned = Tour(found.parts, dict(reversed(list(found.floors.items()))))
            self.assertTrue(turned.shows(plain.file, texts))
            self.assertTrue(turned == found)

    def test_the_tightest_floors(self):
        for plain, texts, answer, costs in small_cases(80):
            if answer:
                floors = {spot: answer - cost for spot, cost in costs.items()}
                self.assertTrue(self.assert_as_plain(plain, texts, tour(plain.file, texts).parts, floors))

    def test_parts_left_out_added_or_moved(self):
        for plain, texts, _, found in tours(60):
            for at, part in enumerate(found.parts):
                rest = found.parts[:at] + found.parts[at + 1:]
                self.assertFalse(self.assert_as_plain(plain, texts, rest, found.floors))
                self.assert_as_plain(plain, texts, [*rest, part], found.floors)
                self.assertFalse(self.assert_as_plain(plain, texts, [*found.parts, part], found.floors))
                self.assertFalse(self.assert_as_plain(plain, texts, [*rest[:at], (), *rest[at:]], found.floors))
            self.assertFalse(self.assert_as_plain(plain, texts, [*found.parts, ()], found.floors))
            self.assertFalse(self.assert_as_plain(plain, texts, [], found.floors))

    def test_a_write_left_out_or_in_another_part(self):
        for plain, texts, _, found in tours(40):
            for at, part in enumerate(found.parts):
                shorter = [*found.parts[:at], part[1:], *found.parts[at + 1:]]
                self.assertFalse(self.assert_as_plain(plain, texts, shorter, found.floors))
                if at:
                    moved = [*found.parts[:at - 1], found.parts[at - 1] + part[:1], *shorter[at:]]
                    self.assertFalse(self.assert_as_plain(plain, texts, moved, found.floors))
            joined = [sum(found.parts, ())]
            self.assertIs(self.assert_as_plain(plain, texts, joined, found.floors), len(texts) == 1)

    def test_a_dearer_tour_with_the_same_floors(self):
        dearer = 0
        for plain, texts, answer, found in tours(30):
            for write in safe_writes(plain.file, texts[0])[:12]:
                file = after(plain.file, write)
                if file.text == plain.file.text and tour_cost(file, texts):
                    first, *others = tour(file, texts).parts
                    given = [(write, *first), *others]
                    shown = self.assert_as_plain(plain, texts, given, found.floors)
                    self.assertIs(shown, plain.cost_of(given) == answer)
                    dearer += not shown
        self.assertGreater(dearer, 20)

    def test_a_floor_raised_or_lowered_or_left_out(self):
        for plain, texts, _, found in tours(20):
            for spot, floor in found.floors.items():
                for changed in (floor + 1, floor - 1, 0, -floor):
                    shown = self.assert_as_plain(plain, texts, found.parts, {**found.floors, spot: changed})
                    self.assertFalse(shown and spot == plain.start)
                rest = {other: found.floors[other] for other in found.floors if other != spot}
                shown = self.assert_as_plain(plain, texts, found.parts, rest)
                self.assertFalse(shown and spot == plain.start)

    def test_spots_that_are_not_open(self):
        for plain, texts, _, found in tours(20):
            state, many = plain.start[1], len(texts)
            odd = [(stage, state) for stage in (-2, -1, many, many + 1)]
            odd += [(stage, (state[0], order)) for stage in range(-1, many + 1) for order in [(), (0, 0, 0)]]
            passed = [plain.file.text, *texts]
            odd = [(stage, at) for stage, at in odd if stage not in range(many) or plain_text(*at) != passed[stage]]
            for spot in odd:
                for floor in (0, -3):
                    more = {**found.floors, spot: floor}
                    self.assertTrue(self.assert_as_plain(plain, texts, found.parts, more))
                self.assertFalse(self.assert_as_plain(plain, texts, found.parts, {**found.floors, spot: 1}))

    def test_stages_that_there_are_not(self):
        # The state reads the last text, as it would have to at stage -1 if stages were counted from the end.
        found = tour(TORN, ["a", "ab"])
        for stage in (-3, -1, 2, 3, 10):
            for order, floor in [((0, 1), 1), ((0,), 1)]:
                spot = (stage, (("a", "b", ""), order))
                self.assertFalse(Tour(found.parts, {**found.floors, spot: floor}).shows(TORN, ["a", "ab"]))
                self.assertTrue(Tour(found.parts, {**found.floors, spot: 0}).shows(TORN, ["a", "ab"]))

    def test_no_floor_at_all(self):
        for plain, texts, _, found in tours(40):
            self.assertFalse(self.assert_as_plain(plain, texts, found.parts, {}))

    def test_by_hand(self):
        texts, given = ["ba", "ab"], [FORTH, BACK]
        found = tour(TORN, texts)
        self.assertTrue(Tour(given, found.floors).shows(TORN, texts))
        # The floor of the file alone is not enough: steps lead from there to spots without one.
        self.assertFalse(Tour(given, {SPOT: 4}).shows(TORN, texts))
        # Torn, this order leaves the order (0,): the text "a".
        self.assertFalse(Tour([FORTH, (("order", (0, 1)),)], found.floors).shows(TORN, texts))
        self.assertFalse(Tour(given[::-1], found.floors).shows(TORN, texts))
        self.assertFalse(found.shows(TORN, ["ba", "b"]))
        self.assertFalse(found.shows(TORN, ["ba"]))
        self.assertFalse(found.shows(TORN, ["ba", "ab", "a"]))
        self.assertFalse(found.shows(File("ab", ("a", "b", ""), (0, 1), order_price=2, torn=True), texts))

    def test_writes_that_cannot_be_done_one_after_the_other(self):
        texts = ["ba", "ab"]
        found = tour(TORN, texts)
        first, second = found.parts
        for given in [[first + first[-1:], second], [first, second + second], [first, first], [first[:1] + first, second]]:
            self.assertIs(Tour(given, found.floors).shows(TORN, texts), False)

    def test_attributes_that_are_set_anew(self):
        texts = ["ba", "ab"]
        found = tour(TORN, texts)
        kept, floors = found.parts, found.floors
        found.parts = kept[:1]
        self.assertFalse(found.shows(TORN, texts))
        found.parts = list(kept)
        self.assertTrue(found.shows(TORN, texts))
        found.floors = {}
        self.assertFalse(found.shows(TORN, texts))
        found.floors = floors
        self.assertTrue(found.shows(TORN, texts))
        found.parts.append(())
        self.assertFalse(found.shows(TORN, texts))
        found.parts.pop()
        floors[SPOT] = 1
        self.assertFalse(found.shows(TORN, texts))


class NoTourShowsTest(Case):
    def assert_as_plain(self, plain, texts, spots):
        shown = NoTour(spots).shows(plain.file, texts)
        self.assertIs(shown, plain.shows_none(texts, spots))
        return shown

    def test_in_another_order_and_with_a_spot_twice(self):
        for plain, texts, found in no_tours(100):
            self.assertTrue(NoTour(found.spots[::-1]).shows(plain.file, texts))
            self.assertTrue(NoTour(found.spots + found.spots[-1:]).shows(plain.file, texts))

    def test_a_spot_left_out(self):
        for plain, texts, found in no_tours(40):
            for spot in found.spots:
                rest = [other for other in found.spots if other != spot]
                shown = self.assert_as_plain(plain, texts, rest)
                self.assertFalse(shown and spot == plain.start)

    def test_one_too_many_that_is_not_open(self):
        for plain, texts, found in no_tours(40):
            passed, state = [plain.file.text, *texts], plain.start[1]
            states = [state, (state[0], ()), (("b",) * len(state[0]), (0,)), *[spot[1] for spot in found.spots[-2:]]]
            for stage in range(-2, len(texts) + 2):
                for at in states:
                    shown = self.assert_as_plain(plain, texts, [*found.spots, (stage, at)])
                    if stage not in range(len(texts)) or plain_text(*at) != passed[stage]:
                        self.assertFalse(shown)

    def test_an_empty_list_and_the_spot_of_the_file_at_another_stage(self):
        for plain, texts, found in no_tours(100):
            self.assertFalse(NoTour([]).shows(plain.file, texts))
        self.assertTrue(NoTour([TIGHT_SPOT]).shows(TIGHT, ["ba"]))
        for stage in (-1, 1, 2):
            self.assertFalse(NoTour([(stage, TIGHT_SPOT[1])]).shows(TIGHT, ["ba"]))
            self.assertFalse(NoTour([TIGHT_SPOT, (stage, TIGHT_SPOT[1])]).shows(TIGHT, ["ba"]))

    def test_where_there_is_a_tour(self):
        for plain, texts, answer, costs in small_cases(60):
            if answer:
                self.assertFalse(self.assert_as_plain(plain, texts, list(costs)))
                self.assertFalse(self.assert_as_plain(plain, texts, [plain.start]))

    def test_attributes_that_are_set_anew(self):
        found = tour(TIGHT, ["ba"])
        spots = found.spots
        found.spots = []
        self.assertFalse(found.shows(TIGHT, ["ba"]))
        found.spots = spots
        self.assertTrue(found.shows(TIGHT, ["ba"]))
        spots.append((1, TIGHT_SPOT[1]))
        self.assertFalse(found.shows(TIGHT, ["ba"]))


class ObjectTest(Case):
    def test_lists_and_dict_are_copied(self):
        given, floors, spots = [FORTH, BACK], {SPOT: 4}, [SPOT]
        found, none = Tour(given, floors), NoTour(spots)
        self.assertEqual((found.parts, found.floors, none.spots), ([FORTH, BACK], {SPOT: 4}, [SPOT]))
        given.pop()
        floors[SPOT] = 1
        floors[TIGHT_SPOT] = 2
        spots.clear()
        self.assertEqual((found.parts, found.floors, none.spots), ([FORTH, BACK], {SPOT: 4}, [SPOT]))
        found.parts.clear()
        found.floors.clear()
        none.spots.append(TIGHT_SPOT)
        self.assertEqual((given, floors, spots), ([FORTH], {SPOT: 1, TIGHT_SPOT: 2}, []))

    def test_equality(self):
        found, none = Tour([FORTH, BACK], {SPOT: 4, TIGHT_SPOT: 1}), NoTour([SPOT, TIGHT_SPOT])
        self.assertTrue(found == Tour([FORTH, BACK], {TIGHT_SPOT: 1, SPOT: 4}))
        self.assertFalse(found != Tour([FORTH, BACK], {SPOT: 4, TIGHT_SPOT: 1}))
        self.assertTrue(none == NoTour([SPOT, TIGHT_SPOT]))
        self.assertFalse(none != NoTour([SPOT, TIGHT_SPOT]))
        floors = {SPOT: 4, TIGHT_SPOT: 1}
        others = [
            Tour([BACK, FORTH], floors),
            Tour([FORTH], floors),
            Tour([FORTH + BACK], floors),
            Tour([], floors),
            Tour([FORTH, BACK], {SPOT: 4}),
            Tour([FORTH, BACK], {SPOT: 4, TIGHT_SPOT: 2}),
            Tour([FORTH, BACK], {}),
        ]
        for other in others:
            self.assertIs(found == other, False)
            self.assertIs(found != other, True)
        for spots in [[SPOT], [TIGHT_SPOT, SPOT], [SPOT, TIGHT_SPOT, SPOT], []]:
            self.assertIs(none == NoTour(spots), False)
            self.assertIs(none != NoTour(spots), True)

    def test_never_equal_to_what_only_has_the_same_attributes(self):
        class Alike:
            parts, floors, spots = [FORTH], {SPOT: 2}, [SPOT]

        for one in (Tour([FORTH], {SPOT: 2}), NoTour([SPOT])):
            self.assertIs(one == Alike(), False)
            self.assertIs(one != Alike(), True)

    def test_never_equal_to_what_is_of_another_kind(self):
        mine = [Tour([FORTH], {SPOT: 2}), NoTour([SPOT]), Tour([], {}), NoTour([])]
        others = [Plan([FORTH], {SPOT: 2}), Plan((), {}), NoPlan([SPOT]), NoPlan([]), TORN, *OTHER_KINDS]
        others += [[FORTH], {SPOT: 2}, [SPOT], ([FORTH], {SPOT: 2}), [], (), BadTexts(None)]
        for at, one in enumerate(mine):
            for other in others + mine[:at] + mine[at + 1:]:
                self.assertIs(one == other, False)
                self.assertIs(one != other, True)
                self.assertIs(other == one, False)
                self.assertIs(other != one, True)


class RefusedTest(Case):
    def calls(self):
        """Return the functions of a file and some texts."""
        return [tour, tour_cost, alone, Tour([], {}).shows, NoTour([]).shows]

    def assert_index(self, index, file, texts):
        for function in self.calls():
            with self.subTest(texts=texts):
                found = self.assert_refused(BadTexts, function, file, texts).index
                self.assertEqual((found, found.__class__), (index, index.__class__))

    def test_no_file(self):
        for function in self.calls():
            for value in NOT_FILES:
                for texts in [["a"], [], None, ["c"], ["ab"], ["a"] * 5]:
                    self.assertIsNone(self.assert_refused(BadFile, function, value, texts).part)

    def test_no_list_or_tuple(self):
        for value in [*OTHER_KINDS, "", "a", "ba", {"a": 1}, iter(["a"]), b"ab"]:
            self.assert_index(None, TORN, value)

    def test_none_or_too_many(self):
        for texts in [[], (), ["a", "b", "a", "b", "a"], ("a", "b", "a", "b", "a"), [None] * 5, ["a"] * 400]:
            self.assert_index(None, TORN, texts)
        for many in range(1, 5):
            for function in self.calls():
                function(TORN, ["a", "b", "a", "b"][:many])

    def test_what_is_no_text_at_each_place(self):
        for value in NOT_TEXTS:
            for index in range(4):
                texts = ["a", "b", "a"]
                texts.insert(index, value)
                self.assert_index(index, TORN, texts)
                self.assert_index(index, TORN, tuple(texts))

    def test_the_one_before_again(self):
        self.assert_index(1, TORN, ["a", "a"])
        self.assert_index(1, TORN, ("ba", "ba", "a"))
        self.assert_index(2, TORN, ["a", "b", "b"])
        self.assert_index(3, TORN, ["a", "b", "a", "a"])
        self.assert_index(1, TORN, ["", ""])

    def test_the_text_of_the_file_first(self):
        self.assert_index(0, TORN, ["ab"])
        self.assert_index(0, TORN, ["ab", "a"])
        self.assert_index(0, VAST, (VAST.text, VAST_TEXT))
        self.assert_index(0, File("ab", ("a",), ()), [""])
        # Later, it may come.
        self.assertEqual(tour_cost(TORN, ["a", "ab"]), 2)
        self.assert_index(2, TORN, ["a", "ab", "ab"])

    def test_the_first_of_several(self):
        self.assert_index(0, TORN, ["ab", None, None])
        self.assert_index(1, TORN, ["a", "c", "c"])
        self.assert_index(1, TORN, ["a", "a", None])
        self.assert_index(2, TORN, ("a", "b", True, "a"))

    def test_letters_of_texts_are_those_of_the_file(self):
        self.assertEqual(tour_cost(File("abc", ("a",), (0,)), ["c", "a"]), 2)
        self.assert_index(0, File("ab", ("a",), (0,)), ["c", "a"])
        self.assert_index(1, TORN, ["aaaaaa", "aaaaaaa"])

    def test_too_large(self):
        for texts in [[VAST_TEXT], [VAST_TEXT, "b"], ["b", VAST_TEXT]]:
            for function in (tour, tour_cost, alone):
                self.assert_refused(TooLarge, function, VAST, texts)

    def test_bad_texts_come_before_too_large(self):
        self.assert_index(1, VAST, [VAST_TEXT, VAST_TEXT])
        self.assert_index(1, VAST, [VAST_TEXT, None])
        self.assert_index(None, VAST, [VAST_TEXT, "a", "b", "a", "b"])

    def test_nothing_has_changed_after_a_refused_call(self):
        found, none = Tour([FORTH], {SPOT: 2}), NoTour([SPOT])
        for one in (found, none):
            self.assert_refused(BadFile, one.shows, None, ["ba"])
            self.assert_refused(BadTexts, one.shows, TORN, ["ab"])
        self.assertEqual((found, none), (Tour([FORTH], {SPOT: 2}), NoTour([SPOT])))


class KeptTest(Case):
    def test_what_a_caller_does_with_results(self):
        found, none = tour(TORN, ["ba", "ab"]), tour(TIGHT, ["ba"])
        found.parts.clear()
        found.floors.clear()
        none.spots.clear()
        self.assertTrue(tour(TORN, ["ba", "ab"]).shows(TORN, ["ba", "ab"]))
        self.assertEqual(tour(TIGHT, ["ba"]).spots, [TIGHT_SPOT])

    def test_what_a_caller_does_with_arguments(self):
        texts = ["ba", "ab"]
        found = tour(TORN, texts)
        self.assertEqual((tour_cost(TORN, texts), alone(TORN, texts), texts), (4, [2, 0], ["ba", "ab"]))
        texts.append("b")
        self.assertTrue(found.shows(TORN, ["ba", "ab"]))
        self.assertFalse(found.shows(TORN, texts))
        self.assertEqual(tour_cost(TORN, ["ba", "ab"]), 4)

    def test_shows_changes_nothing(self):
        found, none, texts = tour(TORN, ["ba", "ab"]), tour(TIGHT, ["ba"]), ["ba", "ab"]
        before = list(found.parts), list(found.floors.items()), list(none.spots), parts(TORN)
        found.shows(TORN, texts)
        found.shows(TORN, ["b"])
        none.shows(TIGHT, ["ba"])
        none.shows(TIGHT, texts)
        self.assertEqual((found.parts, list(found.floors.items()), none.spots, parts(TORN)), before)
        self.assertEqual(texts, ["ba", "ab"])


if __name__ == "__main__":
    unittest.main()
