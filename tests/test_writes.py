"""Tests of safepatch.writes: writes ([3]), their readings ([4]), and which of them are safe ([5])."""

import unittest
from itertools import product

from safepatch.errors import BadFile, BadGoal, BadWrite, BadWrites
from safepatch.files import File
from safepatch.writes import after, all_writes, apply, cost_of, is_safe, is_write, safe_writes, torn_texts
from tests.samples import (
    FILE,
    NOT_FILES,
    NOT_TEXTS,
    NOT_WRITES,
    OTHER_KINDS,
    Alike,
    Case,
    near_texts,
    parts,
    plain_after,
    plain_readings,
    plain_text,
    plain_writes,
    sample_files,
)

# The example of the interface, as it stands there.
EXAMPLE = """
>>> from safepatch.files import File
>>> from safepatch.writes import after, all_writes, apply, cost_of, is_safe, safe_writes, torn_texts
>>> file = File('ab', ('ab', 'b', ''), (0, 1), piece_price=2, torn=True)
>>> found = [file.text, file.spare(), len(all_writes(file)), all_writes(file)[:3], torn_texts(file, ('piece', 0, 'ba')), torn_texts(file, ('order', (1, 0)))]
>>> more = [is_safe(file, ('order', (1, 0)), 'bab'), is_safe(file, ('order', (0, 1, 2)), 'ab'), safe_writes(file, 'ab')[:2], safe_writes(file, 'ab')[8:10], after(file, ('order', (1,))).text]
>>> [found, more, apply(file, [('piece', 2, 'a'), ('order', (2, 2))]).text, cost_of(file, [('piece', 2, 'a'), ('order', (2, 2))])]
[['abb', [2], 57, [('piece', 0, ''), ('piece', 0, 'a'), ('piece', 0, 'b')], ['abb', 'bbb', 'bab'], ['abb', 'bb', 'bab']], [False, True, [('piece', 0, 'a'), ('piece', 1, '')], [('order', (0,)), ('order', (0, 2))], 'b'], 'aa', 3]
"""


class Copied(tuple):
    """A tuple of another class, which is a tuple all the same."""


class ExampleTest(Case):
    def test_the_example_of_the_interface(self):
        self.assert_example(EXAMPLE, 6)


class AllWritesTest(Case):
    def test_held_against_a_plain_list(self):
        for file in sample_files():
            with self.subTest(parts(file)):
                self.assertEqual(all_writes(file), plain_writes(file))

    def test_how_many(self):
        for letters, pieces in [("ab", 7), ("abc", 13)]:
            for blocks, orders in [(1, 4), (2, 15), (3, 40), (4, 85)]:
                file = File(letters, ("a",) * blocks, (0,))
                self.assertEqual(len(all_writes(file)), blocks * (pieces - 1) + orders - 1)

    def test_one_block_by_hand(self):
        pieces = ["", "a", "b", "aa", "ab", "bb"]
        orders = [(), (0,), (0, 0, 0)]
        expected = [("piece", 0, piece) for piece in pieces] + [("order", order) for order in orders]
        self.assertEqual(all_writes(File("ab", ("ba",), (0, 0))), expected)

    def test_the_list_is_new(self):
        found = all_writes(FILE)
        found.clear()
        self.assertEqual(all_writes(FILE), plain_writes(FILE))

    def test_no_file(self):
        for value in NOT_FILES:
            self.assertIsNone(self.assert_refused(BadFile, all_writes, value).part)


class IsWriteTest(Case):
    def test_all_writes_are(self):
        for file in sample_files():
            for write in plain_writes(file):
                self.assertIs(is_write(file, write), True)

    def test_what_changes_nothing_is_not(self):
        for file in sample_files():
            self.assertIs(is_write(file, ("order", file.order)), False)
            for block, piece in enumerate(file.pieces):
                self.assertIs(is_write(file, ("piece", block, piece)), False)

    def test_values_of_any_kind(self):
        for value in NOT_WRITES:
            with self.subTest(value):
                self.assertIs(is_write(FILE, value), False)

    def test_writes_of_another_file(self):
        large = File("abc", ("a", "b", "c", "a"), (0, 1, 2))
        for file in sample_files():
            own = plain_writes(file)
            for write in plain_writes(large):
                self.assertIs(is_write(file, write), write in own)

    def test_tuples_of_other_classes(self):
        self.assertIs(is_write(FILE, Copied(("piece", 0, "a"))), True)
        self.assertIs(is_write(FILE, ("order", Copied((0,)))), True)

    def test_what_claims_to_be_equal(self):
        for value in [Alike(), (Alike(), 0, "a"), ("piece", Alike(), "a"), ("piece", 0, Alike()), (Alike(), (0,))]:
            self.assertIs(is_write(FILE, value), False)
        self.assertIs(is_write(FILE, ("order", (Alike(),))), False)

    def test_values_that_hold_themselves(self):
        value = []
        value.append(value)
        self.assertIs(is_write(FILE, value), False)
        self.assertIs(is_write(FILE, ("order", (value,))), False)

    def test_no_file_whatever_the_value_is(self):
        for value in NOT_FILES:
            for write in [("order", (0,)), *NOT_WRITES[::7]]:
                self.assertIsNone(self.assert_refused(BadFile, is_write, value, write).part)


class AfterTest(Case):
    def test_all_writes(self):
        for file in sample_files():
            before = parts(file)
            for write in plain_writes(file):
                pieces, order = plain_after(file.pieces, file.order, write)
                more = {"piece_price": file.piece_price, "order_price": file.order_price, "torn": file.torn}
                found = after(file, write)
                self.assertEqual(found, File(file.letters, pieces, order, **more))
                self.assertEqual(found.text, plain_text(pieces, order))
            self.assertEqual(parts(file), before)

    def test_refused(self):
        for value in NOT_FILES:
            self.assertIsNone(self.assert_refused(BadFile, after, value, ("order", (0,))).part)
            self.assertIsNone(self.assert_refused(BadFile, after, value, ("order", (0, 1))).part)
        for write in NOT_WRITES:
            with self.subTest(write):
                self.assert_refused(BadWrite, after, FILE, write)


class TornTextsTest(Case):
    def test_held_against_plain_readings(self):
        for file in sample_files():
            for write in plain_writes(file):
                with self.subTest(file=parts(file), write=write):
                    self.assertEqual(torn_texts(file, write), plain_readings(file, write))

    def test_pieces_by_hand(self):
        file = File("abc", ("ab", "c"), (0, 1), torn=True)
        self.assertEqual(torn_texts(file, ("piece", 0, "")), ["c"])
        self.assertEqual(torn_texts(file, ("piece", 0, "c")), ["abc", "cc"])
        self.assertEqual(torn_texts(file, ("piece", 0, "a")), ["abc", "ac"])
        self.assertEqual(torn_texts(file, ("piece", 0, "ac")), ["abc", "abc", "acc"])
        self.assertEqual(torn_texts(file, ("piece", 0, "ca")), ["abc", "cbc", "cac"])
        self.assertEqual(torn_texts(file, ("piece", 1, "bb")), ["abc", "abb", "abbb"])
        self.assertEqual(torn_texts(file, ("piece", 1, "cb")), ["abc", "abc", "abcb"])

    def test_orders_by_hand(self):
        file = File("abc", ("a", "b", "c", ""), (0, 1), torn=True)
        self.assertEqual(torn_texts(file, ("order", ())), [""])
        self.assertEqual(torn_texts(file, ("order", (2,))), ["ab", "c"])
        self.assertEqual(torn_texts(file, ("order", (1, 0))), ["ab", "bb", "ba"])
        self.assertEqual(torn_texts(file, ("order", (2, 2, 2))), ["ab", "cb", "cc", "ccc"])
        self.assertEqual(torn_texts(file, ("order", (0, 1, 3))), ["ab", "ab", "ab", "ab"])
        self.assertEqual(torn_texts(file, ("order", (0, 1, 2))), ["ab", "ab", "ab", "abc"])
        longer = File("abc", ("a", "b", "c"), (0, 1, 2), torn=True)
        self.assertEqual(torn_texts(longer, ("order", (2, 0))), ["abc", "cbc", "ca"])
        self.assertEqual(torn_texts(longer, ("order", (2,))), ["abc", "c"])

    def test_blocks_that_are_not_seen_and_blocks_seen_often(self):
        file = File("ab", ("a", "b"), (0, 0), torn=True)
        self.assertEqual(torn_texts(file, ("piece", 1, "aa")), ["aa", "aa", "aa"])
        self.assertEqual(torn_texts(file, ("piece", 1, "")), ["aa"])
        self.assertEqual(torn_texts(file, ("piece", 0, "bb")), ["aa", "bb", "bbbb"])
        none = File("ab", ("", ""), (), torn=True)
        self.assertEqual(torn_texts(none, ("piece", 0, "ab")), ["", "", ""])
        self.assertEqual(torn_texts(none, ("order", (0, 1))), ["", "", ""])

    def test_files_whose_writes_cannot_be_torn(self):
        file = File("abc", ("ab", "c"), (0, 1))
        self.assertEqual(torn_texts(file, ("piece", 0, "")), ["abc", "c"])
        self.assertEqual(torn_texts(file, ("piece", 0, "ca")), ["abc", "cac"])
        self.assertEqual(torn_texts(file, ("order", ())), ["abc", ""])
        self.assertEqual(torn_texts(file, ("order", (1, 0, 1))), ["abc", "cabc"])
        self.assertEqual(torn_texts(File("ab", ("a", "b"), (0,)), ("piece", 1, "aa")), ["a", "a"])

    def test_the_list_is_new(self):
        write = ("order", (1, 0))
        found = torn_texts(FILE, write)
        found.append("a")
        self.assertEqual(torn_texts(FILE, write), ["abb", "bb", "bab"])

    def test_refused(self):
        for value in NOT_FILES:
            self.assertIsNone(self.assert_refused(BadFile, torn_texts, value, ("order", (0,))).part)
            self.assertIsNone(self.assert_refused(BadFile, torn_texts, value, ("order", (0, 1))).part)
        for write in NOT_WRITES:
            with self.subTest(write):
                self.assert_refused(BadWrite, torn_texts, FILE, write)


class SafeTest(Case):
    def test_held_against_the_readings(self):
        for file in sample_files():
            readings = [(write, plain_readings(file, write)) for write in plain_writes(file)]
            for text in near_texts(file):
                allowed = {plain_text(file.pieces, file.order), text}
                safe = [write for write, texts in readings if set(texts) <= allowed]
                with self.subTest(file=parts(file), text=text):
                    self.assertEqual(safe_writes(file, text), safe)
                    for write, texts in readings:
                        self.assertIs(is_safe(file, write, text), set(texts) <= allowed)

    def test_many_small_files(self):
        for pieces, order, torn in product(product(["", "a", "ab"], repeat=2), [(), (0,), (1, 0)], [False, True]):
            file = File("ab", pieces, order, torn=torn)
            for text in ["", "a", "aba", file.text]:
                allowed = {file.text, text}
                safe = [write for write in plain_writes(file) if set(plain_readings(file, write)) <= allowed]
                self.assertEqual(safe_writes(file, text), safe)

    def test_by_hand(self):
        torn, whole = [File("ab", ("a", "b"), (0, 1), torn=torn) for torn in (True, False)]
        swap = ("order", (1, 0))
        self.assertEqual([is_safe(torn, swap, "ba"), is_safe(whole, swap, "ba")], [False, True])
        self.assertEqual([is_safe(torn, swap, "bb"), is_safe(whole, swap, "bb")], [False, False])
        self.assertEqual([is_safe(torn, ("order", ()), text) for text in ["", "a", "ab"]], [True, False, False])
        self.assertEqual([is_safe(torn, ("piece", 0, "b"), text) for text in ["bb", "b", "ab"]], [True, False, False])

    def test_own_text(self):
        file = File("ab", ("a", "b", "a"), (0, 1), torn=True)
        found = safe_writes(file, "ab")
        self.assertEqual(found[:6], [("piece", 2, piece) for piece in ["", "b", "aa", "ab", "ba", "bb"]])
        self.assertEqual(found[6:], [("order", (2, 1))])
        self.assertIs(is_safe(file, ("order", (2, 1)), "ab"), True)
        self.assertIs(is_safe(file, ("order", (1,)), "ab"), False)

    def test_the_longest_texts(self):
        self.assertEqual(safe_writes(File("ab", ("a",), (0,)), "aaaaaa"), [])
        self.assertIn(("order", (0, 0, 0)), safe_writes(File("ab", ("ab",), ()), "ababab"))

    def test_the_list_is_new(self):
        found = safe_writes(FILE, "ab")
        kept = list(found)
        found.clear()
        self.assertEqual(safe_writes(FILE, "ab"), kept)

    def test_is_safe_refuses(self):
        write = ("order", (0,))
        for value in NOT_FILES:
            for other, text in [(write, "ab"), (write, "c"), (("order", (0, 1)), "ab"), (None, None)]:
                self.assertIsNone(self.assert_refused(BadFile, is_safe, value, other, text).part)
        for text in NOT_TEXTS:
            for other in [write, *NOT_WRITES[::9]]:
                self.assert_refused(BadGoal, is_safe, FILE, other, text)
        for other in NOT_WRITES:
            with self.subTest(other):
                self.assert_refused(BadWrite, is_safe, FILE, other, "ab")

    def test_safe_writes_refuses(self):
        for value in NOT_FILES:
            for text in ["ab", "c", None]:
                self.assertIsNone(self.assert_refused(BadFile, safe_writes, value, text).part)
        for text in NOT_TEXTS:
            self.assert_refused(BadGoal, safe_writes, FILE, text)

    def test_letters_of_a_text_are_those_of_the_file(self):
        self.assertEqual(safe_writes(File("abc", ("c",), ()), "c"), safe_writes(File("abc", ("c",), ()), "c"))
        self.assertIn(("order", (0,)), safe_writes(File("abc", ("c",), ()), "c"))
        self.assert_refused(BadGoal, safe_writes, File("ab", ("a",), ()), "c")


class ApplyTest(Case):
    def test_one_write_at_a_time(self):
        for file in sample_files():
            for write in plain_writes(file):
                price = file.order_price if write[0] == "order" else file.piece_price
                self.assertEqual(apply(file, [write]), after(file, write))
                self.assertEqual(cost_of(file, (write,)), price)

    def test_many_writes(self):
        for file in sample_files():
            writes, pieces, order, cost = [], file.pieces, file.order, 0
            for turn in range(30):
                choices = plain_writes(File(file.letters, pieces, order))
                write = choices[turn * 7 % len(choices)]
                writes.append(write)
                pieces, order = plain_after(pieces, order, write)
                cost += file.order_price if write[0] == "order" else file.piece_price
                for given in (writes, tuple(writes)):
                    found = apply(file, given)
                    self.assertEqual((found.pieces, found.order), (pieces, order))
                    self.assertEqual(cost_of(file, given), cost)
            more = {"piece_price": file.piece_price, "order_price": file.order_price, "torn": file.torn}
            self.assertEqual(apply(file, writes), File(file.letters, pieces, order, **more))

    def test_none_at_all(self):
        for file in sample_files():
            for writes in ([], ()):
                self.assertEqual(apply(file, writes), file)
                self.assertEqual(cost_of(file, writes), 0)

    def test_safe_and_unsafe_and_back(self):
        writes = [("piece", 2, "a"), ("order", (2, 2)), ("piece", 2, ""), ("order", (0, 1))]
        self.assertEqual([is_safe(FILE, write, "aa") for write in writes[:2]], [True, False])
        self.assertEqual(apply(FILE, writes), FILE)
        self.assertEqual(cost_of(FILE, writes), 14)

    def test_what_changes_something_only_because_of_one_before(self):
        writes = [("piece", 0, "a"), ("piece", 0, "ab"), ("order", (1,)), ("order", (0, 1))]
        self.assertEqual(apply(FILE, writes), FILE)
        self.assertEqual(cost_of(FILE, writes), 14)

    def test_no_list_or_tuple(self):
        others = [*OTHER_KINDS, "", "ab", ("order", (0,)).__iter__(), {("order", (0,)): 1}]
        for function in (apply, cost_of):
            for value in others:
                with self.subTest(value):
                    self.assertIsNone(self.assert_refused(BadWrites, function, FILE, value).index)

    def test_what_is_no_write_at_each_place(self):
        good = [("piece", 2, "a"), ("order", (2, 2)), ("piece", 2, "bb")]
        # With block 2 changed and the order (2, 2), some of these have become writes: they are left out.
        wrong = [value for value in NOT_WRITES if value not in [("piece", 2, ""), ("order", (0, 1))]]
        for function in (apply, cost_of):
            for value in wrong:
                for index in range(4):
                    for given in (list, tuple):
                        writes = given(good[:index] + [value] + good[index:])
                        self.assertEqual(self.assert_refused(BadWrites, function, FILE, writes).index, index)

    def test_the_first_of_several(self):
        for function in (apply, cost_of):
            self.assertEqual(self.assert_refused(BadWrites, function, FILE, [None, None]).index, 0)
            writes = (("order", ()), ("order", (3,)), None)
            self.assertEqual(self.assert_refused(BadWrites, function, FILE, writes).index, 1)

    def test_what_changes_nothing_because_of_one_before(self):
        for function in (apply, cost_of):
            for writes, index in [
                ([("order", (1,)), ("order", (1,))], 1),
                ([("piece", 0, "b"), ("order", ()), ("piece", 0, "b")], 2),
                ([("piece", 0, "b"), ("piece", 0, "ab"), ("piece", 0, "ab")], 2),
                ([("order", (0, 1)), ("order", (1,))], 0),
            ]:
                self.assertEqual(self.assert_refused(BadWrites, function, FILE, writes).index, index)

    def test_no_file_comes_first(self):
        for function in (apply, cost_of):
            for value in NOT_FILES:
                for writes in [[], None, [None], [("order", (0,))]]:
                    self.assertIsNone(self.assert_refused(BadFile, function, value, writes).part)

    def test_arguments_are_neither_modified_nor_kept(self):
        for function in (apply, cost_of):
            writes = [("piece", 2, "a"), ("order", (2, 2))]
            first = function(FILE, writes)
            self.assertEqual(writes, [("piece", 2, "a"), ("order", (2, 2))])
            writes.append(("order", ()))
            self.assertNotEqual(function(FILE, writes), first)
            writes.pop()
            self.assertEqual(function(FILE, writes), first)
        found = apply(FILE, writes)
        before = parts(found)
        writes.clear()
        self.assertEqual(parts(found), before)

    def test_refused_writes_are_not_modified(self):
        writes = [("piece", 2, "a"), None, ["order", (0,)]]
        self.assert_refused(BadWrites, apply, FILE, writes)
        self.assert_refused(BadWrites, cost_of, FILE, writes)
        self.assertEqual(writes, [("piece", 2, "a"), None, ["order", (0,)]])


if __name__ == "__main__":
    unittest.main()
