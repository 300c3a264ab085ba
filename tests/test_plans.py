"""Tests of safepatch.plans: changes ([6]), plans ([7]) and musts ([8])."""

import random
import unittest
from functools import lru_cache

from safepatch.errors import BadFile, BadGoal, BadWrites, NoChange, TooLarge
from safepatch.files import File
from safepatch.plans import NoPlan, Plan, can_change, is_change, least_cost, musts, plan
from safepatch.tours import NoTour, Tour
from safepatch.writes import after, safe_writes
from tests.samples import (
    FILE,
    NOT_FILES,
    NOT_TEXTS,
    NOT_WRITES,
    OTHER_KINDS,
    Case,
    Plain,
    near_texts,
    parts,
    plain_text,
    plain_writes,
    random_files,
    random_text,
    words,
)

# The example of the interface, as it stands there.
EXAMPLE = """
>>> from safepatch.files import File
>>> from safepatch.plans import NoPlan, Plan, is_change, least_cost, musts, plan
>>> file, other, third = [File('ab', pieces, (0, 1), torn=torn) for pieces, torn in [(('a', 'b', ''), False), (('a', 'b', ''), True), (('a', 'b'), True)]]
>>> costs = [least_cost(one, 'ba') for one in (file, other, third)]
>>> found = Plan((('piece', 2, 'ba'), ('order', (2,))), {(('a', 'b', ''), (0, 1)): 2})
>>> [costs, found.shows(other, 'ba'), plan(other, 'ba').shows(other, 'ba'), musts(other, 'ba'), NoPlan([(('a', 'b'), (0, 1))]).shows(third, 'ba'), is_change(file, 'ba', [('order', (1, 0))])]
[[1, 2, None], False, True, [('piece', 2, 'ba'), ('order', (2,))], True, True]
"""

KINDS = {("ab", 1): 14, ("ab", 2): 24, ("ab", 3): 20, ("abc", 1): 8, ("abc", 2): 14, ("abc", 3): 2, ("ab", 4): 1}
STATE = (("ab", "b", ""), (0, 1))
TORN = File("ab", ("a", "b", ""), (0, 1), torn=True)
TORN_STATE = (("a", "b", ""), (0, 1))
SWAP = (("piece", 2, "ba"), ("order", (2,)))
TIGHT = File("ab", ("a", "b"), (0, 1), torn=True)
# A file and a text to which there is no change, with too many states: [7] puts TooLarge before NoChange.
VAST = File("abc", ("aa", "ab", "b", "bb"), (2, 1), piece_price=2, torn=True)
VAST_TEXT = "aabaab"


@lru_cache(maxsize=None)
def cases():
    """Return files and texts with what the plain search says: the plain file, a text, the answer, the costs."""
    chance = random.Random(11)
    found = []
    for file in random_files(7, KINDS):
        plain = Plain(file)
        for text in sorted({file.text, *[random_text(chance, file) for _ in range(5)]}):
            found.append((plain, text, *plain.search([text])))
    for letters in ("ab", "abc"):
        for torn in (False, True):
            for piece in words(letters, 2)[::2]:
                plain = Plain(File(letters, (piece,), (0,) * (len(piece) % 3), torn=torn))
                found.extend([(plain, text, *plain.search([text])) for text in words(letters, 2)])
    return found


def small_cases(most):
    """Return the cases that are not too large, and whose answer depends on at most so many states."""
    return [case for case in cases() if case[2] != "large" and len(case[3]) <= most]


def spots(states):
    """Return a dict of states, or a list of them, as spots at stage 0."""
    if isinstance(states, dict):
        return {(0, state): floor for state, floor in states.items()}
    return [(0, state) for state in states]


class ExampleTest(Case):
    def test_the_example_of_the_interface(self):
        self.assert_example(EXAMPLE, 6)


class PlanTest(Case):
    def test_held_against_a_plain_search(self):
        kinds = set()
        for plain, text, answer, _ in cases():
            file = plain.file
            with self.subTest(file=parts(file), text=text):
                if answer == "large":
                    for function in (plan, least_cost, can_change, musts):
                        self.assert_refused(TooLarge, function, file, text)
                    continue
                self.assertEqual(least_cost(file, text), answer)
                self.assertIs(can_change(file, text), answer is not None)
                found = plan(file, text)
                self.assertIs(found.shows(file, text), True)
                self.assertIs(found.__class__, NoPlan if answer is None else Plan)
                if answer is None:
                    self.assertIs(found.states.__class__, list)
                    self.assertTrue(plain.shows_none([text], spots(found.states)))
                else:
                    self.assertEqual((found.writes.__class__, found.floors.__class__), (tuple, dict))
                    self.assertTrue(plain.shows([text], [found.writes], spots(found.floors)))
                    self.assertEqual(plain.cost_of([found.writes]), answer)
            kinds.add(answer if answer in (0, None) else file.torn)
        self.assertEqual(kinds, {0, None, True, False})

    def test_own_text(self):
        for file in random_files(3, KINDS) + [VAST]:
            state = (file.pieces, file.order)
            self.assertEqual(least_cost(file, file.text), 0)
            self.assertIs(can_change(file, file.text), True)
            found = plan(file, file.text)
            self.assertEqual(found.writes, ())
            self.assertTrue(found.shows(file, file.text))
            for floors in [{}, {state: 0}, {state: -1}]:
                self.assertTrue(Plan((), floors).shows(file, file.text))
            self.assertFalse(Plan((), {state: 1}).shows(file, file.text))
            self.assertFalse(NoPlan([state]).shows(file, file.text))
            self.assertFalse(NoPlan([]).shows(file, file.text))

    def test_own_text_is_not_reached_by_writes_that_come_back(self):
        there_and_back = (("piece", 2, "a"), ("piece", 2, ""))
        self.assertFalse(Plan(there_and_back, {TORN_STATE: 2}).shows(TORN, "ab"))
        self.assertFalse(Plan(there_and_back, {}).shows(TORN, "ab"))
        self.assertFalse(is_change(TORN, "ab", there_and_back))

    def test_by_hand(self):
        self.assertEqual([least_cost(TORN, text) for text in ["ba", "a", "b", "", "abab"]], [2, 1, 1, 1, 2])
        self.assertEqual([least_cost(TIGHT, text) for text in ["ba", "a", "b", "", "bb"]], [None, 1, 1, 1, 1])
        whole = File("ab", ("a", "b"), (0, 1), piece_price=4, order_price=3)
        self.assertEqual([least_cost(whole, text) for text in ["ba", "aab", "bab", "baba"]], [3, 3, 3, None])
        self.assertEqual(plan(TORN, "ba").writes, SWAP)

    def test_no_change_at_all(self):
        found = plan(TIGHT, "ba")
        self.assertEqual(found, NoPlan([(("a", "b"), (0, 1))]))
        # One piece, up to three times, gives no text of five letters.
        single = File("ab", ("",), ())
        self.assertEqual(plan(single, "aaaaa").__class__, NoPlan)
        self.assertEqual(least_cost(single, "aaaaaa"), 2)


class IsChangeTest(Case):
    def assert_is(self, expected, file, text, writes):
        for given in (list(writes), tuple(writes)):
            self.assertIs(is_change(file, text, given), expected)

    def test_changes_that_plans_have(self):
        for plain, text, answer, _ in small_cases(100):
            if answer:
                writes = plan(plain.file, text).writes
                self.assert_is(True, plain.file, text, writes)
                self.assert_is(False, plain.file, text, writes[:-1])

    def test_sequences_by_chance_held_against_the_plain_words(self):
        chance = random.Random(5)
        seen = []
        for plain, text, _, _ in small_cases(60):
            for _ in range(6):
                file, writes = plain.file, []
                for _ in range(chance.randrange(4)):
                    choices = (chance.random() < 0.8 and safe_writes(file, text)) or plain_writes(file)
                    writes.append(chance.choice(choices))
                    file = after(file, writes[-1])
                expected = plain.is_tour([text], [writes])
                if text == plain.file.text:
                    expected = not writes
                self.assert_is(expected, plain.file, text, writes)
                seen.append((expected, len(writes)))
        self.assertLessEqual({(True, 1), (True, 2), (False, 0), (False, 1), (False, 2), (False, 3)}, set(seen))

    def test_by_hand(self):
        self.assert_is(True, TORN, "ba", SWAP)
        # A longer one, which is not the cheapest, is a change as well.
        self.assert_is(True, TORN, "ba", [("piece", 2, "a"), *SWAP])
        self.assert_is(True, TORN, "ba", [SWAP[0], ("piece", 2, ""), *SWAP])

    def test_it_reads_something_else_in_between(self):
        file = File("ab", ("a", "b"), (0, 1))
        self.assert_is(False, file, "ba", [("order", (1,)), ("order", (1, 0))])
        self.assert_is(True, file, "ba", [("order", (1, 0))])

    def test_it_reaches_the_new_text_too_early(self):
        self.assert_is(False, TORN, "ba", [*SWAP, ("piece", 0, "b")])
        self.assert_is(False, TORN, "ba", [*SWAP, ("order", (2, 2)), ("order", (2,))])
        self.assert_is(False, TORN, "a", [("order", (0,)), ("order", (0, 1)), ("order", (0,))])

    def test_it_does_not_reach_the_new_text(self):
        self.assert_is(False, TORN, "ba", SWAP[:1])
        self.assert_is(False, TORN, "ba", [("piece", 2, "a"), ("piece", 2, "")])

    def test_an_unsafe_write(self):
        self.assert_is(False, TORN, "ba", [("order", (1, 0))])
        # The last write alone is unsafe: torn, it leaves the order (2, 1).
        self.assert_is(False, TORN, "abab", [("piece", 2, "ab"), ("order", (2, 2))])
        self.assert_is(True, TORN, "abab", [("piece", 2, "ab"), ("order", (0, 1, 2))])
        # The first write alone is unsafe: it leads to another text.
        self.assert_is(False, TORN, "ba", [("piece", 0, "aa"), *SWAP])

    def test_the_empty_one(self):
        self.assert_is(True, TORN, "ab", [])
        self.assert_is(False, TORN, "ba", [])
        self.assert_is(False, TORN, "", [])
        self.assert_is(False, TORN, "ab", [("piece", 2, "a")])


class PlanShowsTest(Case):
    def assert_as_plain(self, plain, text, writes, floors):
        found = Plan(writes, floors)
        self.assertIs(found.shows(plain.file, text), plain.shows([text], [writes], spots(floors)))
        return found.shows(plain.file, text)

    def found(self, most=60):
        """Return the plain file, the text, the cost and the Plan of many changes."""
        chosen = [case for case in small_cases(most) if case[2]]
        self.assertGreater(len(chosen), 100)
        return [(plain, text, answer, plan(plain.file, text)) for plain, text, answer, _ in chosen]

    def test_the_dict_in_another_order(self):
        for plain, text, _, found in self.found(200):
            turned = Plan(found.writes, dict(reversed(list(found.floors.items()))))
            self.assertTrue(turned.shows(plain.file, text))
            self.assertTrue(turned == found)

    def test_the_tightest_floors(self):
        for plain, text, answer, costs in small_cases(60):
            if answer:
                floors = {state: answer - cost for (_, state), cost in costs.items()}
                self.assertTrue(self.assert_as_plain(plain, text, plan(plain.file, text).writes, floors))

    def test_a_write_left_out_or_put_elsewhere(self):
        for plain, text, _, found in self.found():
            for at, write in enumerate(found.writes):
                rest = found.writes[:at] + found.writes[at + 1:]
                self.assertFalse(self.assert_as_plain(plain, text, rest, found.floors))
                self.assert_as_plain(plain, text, (*rest, write), found.floors)
                self.assert_as_plain(plain, text, (*found.writes, write), found.floors)

    def test_a_dearer_change_with_the_same_floors(self):
        dearer = 0
        for plain, text, answer, found in self.found(30):
            for write in safe_writes(plain.file, text)[:20]:
                file = after(plain.file, write)
                if file.text == plain.file.text and can_change(file, text):
                    writes = (write, *plan(file, text).writes)
                    self.assertTrue(is_change(plain.file, text, writes))
                    shown = self.assert_as_plain(plain, text, writes, found.floors)
                    self.assertIs(shown, plain.cost_of([writes]) == answer)
                    dearer += not shown
        self.assertGreater(dearer, 50)

    def test_a_floor_raised_or_lowered_or_left_out(self):
        for plain, text, answer, found in self.found(25):
            start = (plain.file.pieces, plain.file.order)
            for state, floor in found.floors.items():
                for changed in (floor + 1, floor - 1, 0, -floor):
                    shown = self.assert_as_plain(plain, text, found.writes, {**found.floors, state: changed})
                    self.assertFalse(shown and state == start and changed != floor)
                rest = {other: found.floors[other] for other in found.floors if other != state}
                shown = self.assert_as_plain(plain, text, found.writes, rest)
                self.assertFalse(shown and state == start)

    def test_a_floor_where_there_must_be_none(self):
        for plain, text, _, found in self.found(25):
            file = plain.file
            blocks = len(file.pieces)
            odd = [(("a",) * blocks, order) for order in [(), (0,), (0, 0), (0, 0, 0)]]
            odd += [(("",) * blocks, ()), (file.pieces, ()), (after(file, plain_writes(file)[-1]).pieces, (0,))]
            for state in [state for state in odd if plain_text(*state) != file.text]:
                for floor in (0, -1, -7):
                    more = {**found.floors, state: floor}
                    self.assertTrue(self.assert_as_plain(plain, text, found.writes, more))
                for floor in (1, 7):
                    more = {**found.floors, state: floor}
                    self.assertFalse(self.assert_as_plain(plain, text, found.writes, more))

    def test_floors_far_below_0_are_as_good_as_none(self):
        # Where a step costs at least the floor before, the floor behind it may be any or none.
        changed = 0
        for plain, text, _, found in self.found(25):
            steps = [step for state in found.floors for step in plain.steps((0, state), [text])]
            for state in {after for _, _, (stage, after) in steps if stage == 0 and after not in found.floors}:
                for floor in (0, -1, -30):
                    more = {**found.floors, state: floor}
                    self.assertTrue(self.assert_as_plain(plain, text, found.writes, more))
                    changed += 1
        self.assertGreater(changed, 100)

    def test_a_floor_where_the_new_text_is_read(self):
        for plain, text, _, found in self.found(25):
            file = plain.file
            for write in found.writes:
                file = after(file, write)
            self.assertFalse(Plan(found.writes, {**found.floors, (file.pieces, file.order): 1}).shows(plain.file, text))
            self.assertTrue(Plan(found.writes, {**found.floors, (file.pieces, file.order): 0}).shows(plain.file, text))

    def test_a_floor_where_the_old_text_is_read_and_no_change_passes(self):
        # The order (1,) reads the old text as well, but nothing leads to it from the file.
        file, other = File("ab", ("a", "a"), (0,), order_price=5, torn=True), (("b", "a"), (1,))
        found = plan(file, "b")
        for floor in range(-1, 9):
            self.assert_as_plain(Plain(file), "b", found.writes, {**found.floors, other: floor})

    def test_floors_by_chance(self):
        chance, shown = random.Random(8), []
        for plain, text, answer, costs in small_cases(12):
            if answer:
                found = plan(plain.file, text)
                for _ in range(8):
                    floors = {state: answer - at - chance.choice([0, 0, 0, 1]) for (_, state), at in costs.items()}
                    floors[plain.start[1]] = answer
                    shown.append(self.assert_as_plain(plain, text, found.writes, floors))
        self.assertEqual(set(shown), {True, False})

    def test_attributes_that_are_set_anew(self):
        found = plan(TORN, "ba")
        floors = found.floors
        found.writes = SWAP[:1]
        self.assertFalse(found.shows(TORN, "ba"))
        found.writes = SWAP
        self.assertTrue(found.shows(TORN, "ba"))
        found.floors = {}
        self.assertFalse(found.shows(TORN, "ba"))
        found.floors = floors
        self.assertTrue(found.shows(TORN, "ba"))
        floors[TORN_STATE] = 1
        self.assertFalse(found.shows(TORN, "ba"))
        found.writes, found.floors = (), {}
        self.assertEqual([found.shows(TORN, text) for text in ["ba", "ab"]], [False, True])

    def test_another_file_or_text(self):
        found = plan(TORN, "ba")
        self.assertFalse(found.shows(TORN, "bb"))
        self.assertFalse(found.shows(TORN, "ab"))
        self.assertFalse(found.shows(File("ab", ("a", "b", ""), (0, 1), order_price=2, torn=True), "ba"))
        # Without tearing, the order alone would do at a cost of 1.
        self.assertFalse(found.shows(File("ab", ("a", "b", ""), (0, 1)), "ba"))

    def test_writes_that_cannot_be_done_one_after_the_other(self):
        floors = plan(TORN, "ba").floors
        for writes in [(SWAP[0], SWAP[0], SWAP[1]), (("order", (0, 1)), *SWAP), (*SWAP, SWAP[1]), (SWAP[1], SWAP[1])]:
            self.assertIs(Plan(writes, floors).shows(TORN, "ba"), False)

    def test_no_dearer_change_is_cheapest(self):
        # Floors that are high enough for a dearer change break a rule, whichever they are.
        dearer = (("piece", 2, "a"), *SWAP)
        self.assertTrue(is_change(TORN, "ba", dearer))
        for floor in range(2, 6):
            for state in plan(TORN, "ba").floors:
                floors = {other: floor for other in plan(TORN, "ba").floors}
                self.assertFalse(Plan(dearer, floors).shows(TORN, "ba"))
                self.assertFalse(Plan(dearer, {**floors, state: floor + 1}).shows(TORN, "ba"))


class NoPlanShowsTest(Case):
    def found(self, most=60):
        """Return the plain file, the text and the NoPlan for many texts to which there is no change."""
        chosen = [case for case in small_cases(most) if case[2] is None]
        self.assertGreater(len(chosen), 20)
        return [(plain, text, plan(plain.file, text)) for plain, text, _, _ in chosen]

    def assert_as_plain(self, plain, text, states):
        shown = NoPlan(states).shows(plain.file, text)
        self.assertIs(shown, plain.shows_none([text], spots(states)))
        return shown

    def test_in_another_order_and_with_a_state_twice(self):
        for plain, text, found in self.found():
            self.assertTrue(NoPlan(found.states[::-1]).shows(plain.file, text))
            self.assertTrue(NoPlan(found.states + found.states[:1]).shows(plain.file, text))

    def test_a_state_left_out(self):
        for plain, text, found in self.found():
            for state in found.states:
                rest = [other for other in found.states if other != state]
                shown = self.assert_as_plain(plain, text, rest)
                self.assertFalse(shown and state == plain.start[1])

    def test_one_too_many_that_reads_something_else(self):
        for plain, text, found in self.found():
            file = plain.file
            others = [(file.pieces, ()), (("b",) * len(file.pieces), (0,)), (("aa",) * len(file.pieces), (0, 0, 0))]
            for state in [state for state in others if plain_text(*state) != file.text]:
                self.assertFalse(self.assert_as_plain(plain, text, [*found.states, state]))
                self.assertFalse(self.assert_as_plain(plain, text, [state, *found.states]))

    def test_one_too_many_that_reads_the_old_text(self):
        shown = []
        for plain, text, found in self.found():
            for pieces in [("a",) * len(plain.file.pieces), ("ab",) * len(plain.file.pieces)]:
                for order in [(), (0,), (0, 0)]:
                    shown.append(self.assert_as_plain(plain, text, [*found.states, (pieces, order)]))
        self.assertIn(False, shown)
        # Also a larger list can be closed.
        apart = [(("a", "b"), (0, 1)), (("b", "ab"), (1,)), (("", "ab"), (1,))]
        self.assert_as_plain(Plain(TIGHT), "ba", apart)

    def test_an_empty_list_and_one_without_the_state_of_the_file(self):
        for plain, text, _ in self.found():
            self.assertFalse(NoPlan([]).shows(plain.file, text))
        self.assertFalse(NoPlan([(("b", "ab"), (1,))]).shows(TIGHT, "ba"))

    def test_where_there_is_a_change(self):
        for plain, text, answer, costs in small_cases(60):
            if answer:
                self.assertFalse(self.assert_as_plain(plain, text, [state for _, state in costs]))
                self.assertFalse(self.assert_as_plain(plain, text, [plain.start[1]]))

    def test_attributes_that_are_set_anew(self):
        found = plan(TIGHT, "ba")
        states = found.states
        found.states = []
        self.assertFalse(found.shows(TIGHT, "ba"))
        found.states = states
        self.assertTrue(found.shows(TIGHT, "ba"))
        states.append((("", ""), ()))
        self.assertFalse(found.shows(TIGHT, "ba"))


class ObjectTest(Case):
    def test_attributes_are_set_when_the_object_is_made(self):
        found = Plan(SWAP, {TORN_STATE: 2})
        self.assertEqual((found.writes, found.floors), (SWAP, {TORN_STATE: 2}))
        self.assertEqual(NoPlan([TORN_STATE]).states, [TORN_STATE])

    def test_dict_and_list_are_copied(self):
        floors, states = {TORN_STATE: 2}, [TORN_STATE]
        found, none = Plan(SWAP, floors), NoPlan(states)
        floors[STATE] = 5
        floors[TORN_STATE] = 0
        states.append(STATE)
        self.assertEqual(found.floors, {TORN_STATE: 2})
        self.assertEqual(none.states, [TORN_STATE])
        found.floors.clear()
        none.states.clear()
        self.assertEqual((floors, states), ({TORN_STATE: 0, STATE: 5}, [TORN_STATE, STATE]))

    def test_equality(self):
        def made():
            return Plan(SWAP, {TORN_STATE: 2, STATE: 1}), NoPlan([TORN_STATE, STATE])

        (found, none), (again, none_again) = made(), made()
        self.assertTrue(found == again and none == none_again)
        self.assertFalse(found != again or none != none_again)
        others = [
            Plan(SWAP[:1], {TORN_STATE: 2, STATE: 1}),
            Plan(SWAP, {TORN_STATE: 2}),
            Plan(SWAP, {TORN_STATE: 2, STATE: 0}),
            Plan(SWAP, {}),
            Plan((), {}),
        ]
        for other in others:
            self.assertIs(found == other, False)
            self.assertIs(found != other, True)
        self.assertTrue(found == Plan(SWAP, {STATE: 1, TORN_STATE: 2}))
        for states in [[TORN_STATE], [STATE, TORN_STATE], [TORN_STATE, STATE, STATE], []]:
            self.assertIs(none == NoPlan(states), False)
            self.assertIs(none != NoPlan(states), True)

    def test_never_equal_to_what_is_of_another_kind(self):
        writes, floors, states = SWAP, {TORN_STATE: 2}, [TORN_STATE]
        mine = [Plan(writes, floors), NoPlan(states), Plan((), {}), NoPlan([])]
        others = [Tour([writes], floors), Tour([], {}), NoTour(states), NoTour([]), TORN, *OTHER_KINDS]
        others += [writes, floors, states, (writes, floors), (), [], BadGoal(), NoChange()]
        for at, one in enumerate(mine):
            for other in others + mine[:at] + mine[at + 1:]:
                self.assertIs(one == other, False)
                self.assertIs(one != other, True)
                self.assertIs(other == one, False)
                self.assertIs(other != one, True)

    def test_never_equal_to_what_only_has_the_same_attributes(self):
        class Alike:
            writes, floors, states = SWAP, {TORN_STATE: 2}, [TORN_STATE]

        for one in (Plan(SWAP, {TORN_STATE: 2}), NoPlan([TORN_STATE])):
            self.assertIs(one == Alike(), False)
            self.assertIs(one != Alike(), True)

    def test_equality_is_that_of_the_current_attributes(self):
        found, other = Plan(SWAP, {}), Plan((), {})
        other.writes = SWAP
        self.assertTrue(found == other)
        other.floors[STATE] = 1
        self.assertFalse(found == other)


class MustsTest(Case):
    def test_held_against_each_write_forbidden_in_turn(self):
        many = []
        for plain, text, answer, costs in small_cases(45):
            file = plain.file
            if answer is None:
                self.assert_refused(NoChange, musts, file, text)
                continue
            # A write that the plan does not have is no must; each other one is, if nothing is as cheap without it.
            every = plain_writes(file) + [("piece", at, piece) for at, piece in enumerate(file.pieces)]
            every += [("order", file.order)]
            needed = [write for write in every if plain.search([text], 10**9, forbidden=write)[0] != answer]
            with self.subTest(file=parts(file), text=text):
                self.assertEqual(musts(file, text), sorted(needed, key=place))
                many.append(len(needed))
        self.assertLessEqual({0, 1, 2}, set(many))

    def test_own_text(self):
        for file in [FILE, TORN, TIGHT, VAST]:
            self.assertEqual(musts(file, file.text), [])

    def test_by_hand(self):
        self.assertEqual(musts(TORN, "ba"), list(SWAP))
        # Two blocks can take the new text: only the kind of the write is the same, not the write.
        self.assertEqual(musts(File("ab", ("a", "b", "", ""), (0, 1), torn=True), "ba"), [])
        self.assertEqual(musts(TORN, "a"), [])
        self.assertEqual(musts(File("ab", ("a",), (0,), torn=True), "b"), [("piece", 0, "b")])

    def test_order_of_the_writes(self):
        # The order is written first, but writes of pieces come first in [3].
        file = File("abc", ("a", "b"), (0,), piece_price=1, order_price=5, torn=True)
        for text in words("abc", 3):
            if text != "a" and can_change(file, text):
                found = musts(file, text)
                self.assertEqual(found, sorted(found, key=place))

    def test_no_change(self):
        self.assert_refused(NoChange, musts, TIGHT, "ba")

    def test_too_large_comes_before_no_change(self):
        self.assert_refused(TooLarge, musts, VAST, VAST_TEXT)


def place(write):
    """Return what the order of [3] compares."""
    return (write[0] == "order", write[1:-1], len(write[-1]), write[-1])


class RefusedTest(Case):
    def calls(self):
        """Return the functions of a file and a text."""
        none = Plan((), {}), NoPlan([])
        return [plan, least_cost, can_change, musts, none[0].shows, none[1].shows, lambda *both: is_change(*both, [])]

    def test_no_file(self):
        for function in self.calls():
            for value in NOT_FILES:
                for text in ["ab", *NOT_TEXTS[::4]]:
                    self.assertIsNone(self.assert_refused(BadFile, function, value, text).part)

    def test_no_text(self):
        for function in self.calls():
            for text in NOT_TEXTS:
                for file in (FILE, TORN, TIGHT):
                    self.assert_refused(BadGoal, function, file, text)

    def test_letters_of_a_text_are_those_of_the_file(self):
        three = File("abc", ("a",), (0,))
        for function in self.calls()[:3]:
            function(three, "c")
            self.assert_refused(BadGoal, function, File("ab", ("a",), (0,)), "c")

    def test_the_longest_texts(self):
        for function in self.calls()[:3]:
            function(TIGHT, "ababab")
            self.assert_refused(BadGoal, function, TIGHT, "abababa")

    def test_too_large(self):
        for function in (plan, least_cost, can_change, musts):
            self.assert_refused(TooLarge, function, VAST, VAST_TEXT)
            self.assert_refused(BadGoal, function, VAST, VAST_TEXT + "a")

    def test_is_change_refuses_no_list_or_tuple(self):
        for value in [*OTHER_KINDS, "", "ab", {("order", (0,)): 1}, iter([("order", (0,))])]:
            self.assertIsNone(self.assert_refused(BadWrites, is_change, FILE, "ab", value).index)

    def test_is_change_refuses_what_is_no_write(self):
        good = [("piece", 2, "a"), ("order", (2, 2)), ("piece", 2, "bb")]
        wrong = [value for value in NOT_WRITES if value not in [("piece", 2, ""), ("order", (0, 1))]]
        for value in wrong:
            for index in range(4):
                for given in (list, tuple):
                    writes = given(good[:index] + [value] + good[index:])
                    self.assertEqual(self.assert_refused(BadWrites, is_change, FILE, "ab", writes).index, index)

    def test_is_change_refuses_writes_although_the_ones_before_are_no_change(self):
        for writes in [[("order", ()), None], [("piece", 2, "a"), ("piece", 2, "a")]]:
            for text in ["ab", FILE.text, "bbbb"]:
                self.assertEqual(self.assert_refused(BadWrites, is_change, FILE, text, writes).index, 1)

    def test_is_change_file_then_text_then_writes(self):
        for value in NOT_FILES:
            self.assertIsNone(self.assert_refused(BadFile, is_change, value, "c", None).part)
            self.assertIsNone(self.assert_refused(BadFile, is_change, value, "ab", [None]).part)
        for text in NOT_TEXTS:
            for writes in [None, [], [None], [("order", (0,))]]:
                self.assert_refused(BadGoal, is_change, FILE, text, writes)

    def test_nothing_has_changed_after_a_refused_call(self):
        found, none = Plan(SWAP, {TORN_STATE: 2}), NoPlan([TORN_STATE])
        for one in (found, none):
            self.assert_refused(BadFile, one.shows, None, "ba")
            self.assert_refused(BadGoal, one.shows, TORN, "c")
        self.assertEqual((found, none), (Plan(SWAP, {TORN_STATE: 2}), NoPlan([TORN_STATE])))


class KeptTest(Case):
    def test_what_a_caller_does_with_results(self):
        found, none, needed = plan(TORN, "ba"), plan(TIGHT, "ba"), musts(TORN, "ba")
        found.floors.clear()
        found.writes = ()
        none.states.append(1)
        needed.clear()
        self.assertTrue(plan(TORN, "ba").shows(TORN, "ba"))
        self.assertEqual(plan(TIGHT, "ba").states, [(("a", "b"), (0, 1))])
        self.assertEqual(musts(TORN, "ba"), list(SWAP))
        self.assertIsNot(plan(TORN, "ba").floors, plan(TORN, "ba").floors)

    def test_what_a_caller_does_with_arguments(self):
        writes = list(SWAP)
        self.assertTrue(is_change(TORN, "ba", writes))
        self.assertEqual(writes, list(SWAP))
        writes.pop()
        self.assertFalse(is_change(TORN, "ba", writes))
        writes.append(SWAP[1])
        self.assertTrue(is_change(TORN, "ba", writes))

    def test_shows_changes_nothing(self):
        found, none = plan(TORN, "ba"), plan(TIGHT, "ba")
        before = found.writes, list(found.floors.items()), list(none.states)
        for file in (TORN, TIGHT, File("abc", ("a", "b", "c"), (0, 1))):
            for text in ("ba", "ab", ""):
                if len(file) == 3:
                    found.shows(file, text)
                none.shows(TIGHT, text)
        self.assertEqual((found.writes, list(found.floors.items()), none.states), before)

    def test_the_same_answer_again(self):
        for text in near_texts(FILE):
            self.assertEqual(least_cost(FILE, text), least_cost(FILE, text))
            self.assertEqual(plan(FILE, text), plan(FILE, text))


if __name__ == "__main__":
    unittest.main()
