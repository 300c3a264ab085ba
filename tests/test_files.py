"""Tests of safepatch.files: files of [2], their parts and their equality, and what is refused."""

import unittest
from itertools import product

from safepatch.errors import BadFile, PatchError
from safepatch.files import File
from tests.samples import OTHER_KINDS, PARAMETERS, parts, plain_text, sample_files, words

GOOD = {
    "letters": "ab",
    "pieces": ("a", "ba"),
    "order": (1, 0),
    "piece_price": 2,
    "order_price": 3,
    "torn": True,
}
NOT_PRICES = [0, 6, -1, 10**30, True, False, None, "1", b"1", (1,), [1], {}]
WRONG = {
    "letters": [*OTHER_KINDS, "", "a", "b", "ba", "abcd", "ABC", "ab ", "cab", "ac", ("a", "b"), ["a", "b"], ("ab",)],
    "pieces": [
        *OTHER_KINDS,
        "ab",
        (),
        ["a", "ba"],
        ("a",) * 5,
        ("aba", "a"),
        ("a", "aaa"),
        ("a", "c"),
        ("A", "a"),
        (" ", "a"),
        ("a", "a\n"),
        ("a", None),
        ("a", b"a"),
        (0, "a"),
        ("a", True),
        ("a", ("a",)),
        (["a"], "a"),
        ("a", {}),
    ],
    "order": [
        *OTHER_KINDS,
        "",
        "01",
        [],
        [1, 0],
        (0, 0, 0, 0),
        (2,),
        (0, 2),
        (-1,),
        (0, 10**30),
        (True,),
        (0, True),
        (False, 1),
        (1, False, 0),
        ("0",),
        (None,),
        ((0,),),
        ([0],),
        (0, {}),
        (b"0",),
    ],
    "piece_price": NOT_PRICES,
    "order_price": NOT_PRICES,
    "torn": [0, 1, 2, -1, None, "", "yes", "True", (), (True,), [], [True], {}],
}
NAMES = list(GOOD)


def made(**changed):
    """Return the good file with some parameters changed."""
    return File(**{**GOOD, **changed})


class RightFileTest(unittest.TestCase):
    def test_properties_are_the_parameters(self):
        for letters, pieces, order, more in PARAMETERS:
            with self.subTest((letters, pieces, order, more)):
                file = File(letters, pieces, order, **more)
                shown = [file.letters, file.pieces, file.order, file.piece_price, file.order_price, file.torn]
                prices = [more.get("piece_price", 1), more.get("order_price", 1)]
                self.assertEqual(shown, [letters, pieces, order, *prices, more.get("torn", False)])
                self.assertIs(file.torn, more.get("torn", False))
                self.assertIsInstance(file.pieces, tuple)
                self.assertIsInstance(file.order, tuple)

    def test_text_used_spare_and_len(self):
        for file in sample_files():
            blocks = list(range(len(file.pieces)))
            with self.subTest(parts(file)):
                self.assertEqual(file.text, plain_text(file.pieces, file.order))
                self.assertEqual(file.used(), [block for block in blocks if block in file.order])
                self.assertEqual(file.spare(), [block for block in blocks if block not in file.order])
                self.assertEqual(len(file), len(file.pieces))

    def test_some_by_hand(self):
        file = File("abc", ("ab", "", "c", "ba"), (3, 0, 3))
        shown = [file.text, file.used(), file.spare(), len(file)]
        self.assertEqual(shown, ["baabba", [0, 3], [1, 2], 4])
        empty = File("ab", ("",), ())
        self.assertEqual([empty.text, empty.used(), empty.spare(), len(empty)], ["", [], [0], 1])

    def test_all_pieces_orders_and_prices_are_taken(self):
        for letters in ("ab", "abc"):
            for piece in words(letters, 2):
                self.assertEqual(made(letters=letters, pieces=("a", piece)).text, piece + "a")
        for blocks in range(1, 5):
            orders = [order for size in range(4) for order in product(range(blocks), repeat=size)]
            for order in orders:
                self.assertEqual(made(pieces=("a",) * blocks, order=order).order, order)
        for price in range(1, 6):
            self.assertEqual(made(piece_price=price).piece_price, price)
            self.assertEqual(made(order_price=price).order_price, price)

    def test_what_stands_after_the_star_is_passed_by_keyword(self):
        for more in [(1,), (1, 1), (1, 1, False)]:
            with self.assertRaises(TypeError):
                File("ab", ("a",), (0,), *more)

    def test_files_do_not_change(self):
        for file in sample_files():
            before = parts(file)
            for name in [*NAMES, "text"]:
                with self.assertRaises(AttributeError):
                    setattr(file, name, getattr(file, name))
            self.assertEqual(parts(file), before)

    def test_lists_are_new_each_time(self):
        for file in sample_files():
            before = parts(file)
            file.used().append(9)
            file.spare().clear()
            self.assertEqual(parts(file), before)
            self.assertIsNot(file.used(), file.used())
            self.assertIsNot(file.spare(), file.spare())


class EqualFileTest(unittest.TestCase):
    def test_equal_where_all_six_are(self):
        files, others = sample_files(), sample_files()
        for at, file in enumerate(files):
            for place, other in enumerate(others):
                self.assertIs(file == other, at == place)
                self.assertIs(file != other, at != place)

    def test_one_parameter_makes_a_difference(self):
        other = {
            "letters": "abc",
            "pieces": ("a", "b"),
            "order": (1,),
            "piece_price": 3,
            "order_price": 2,
            "torn": False,
        }
        for name in NAMES:
            with self.subTest(name):
                self.assertFalse(made() == made(**{name: other[name]}))
                self.assertTrue(made() != made(**{name: other[name]}))

    def test_the_same_text_is_not_enough(self):
        self.assertFalse(File("ab", ("a", "a"), (0,)) == File("ab", ("a", "a"), (1,)))
        self.assertFalse(File("ab", ("a", "b"), (0,)) == File("ab", ("a", "a"), (0,)))

    def test_never_equal_to_what_is_no_file(self):
        file = made()
        others = [*OTHER_KINDS, "aba", file.text, (file.pieces, file.order), parts(file), PatchError(), BadFile(None)]
        for other in others:
            self.assertIs(file == other, False)
            self.assertIs(file != other, True)
            self.assertIs(other == file, False)
            self.assertIs(other != file, True)


class WrongFileTest(unittest.TestCase):
    def refused(self, **changed):
        with self.assertRaises(BadFile) as caught:
            made(**changed)
        return caught.exception.part

    def test_each_parameter_alone(self):
        for name in NAMES:
            for value in WRONG[name]:
                with self.subTest(name=name, value=value):
                    self.assertEqual(self.refused(**{name: value}), name.upper())

    def test_the_first_of_several(self):
        for at, first in enumerate(NAMES):
            for later in NAMES[at + 1:]:
                for value in WRONG[first]:
                    for other in WRONG[later][::3]:
                        with self.subTest(first=first, value=value, later=later, other=other):
                            self.assertEqual(self.refused(**{first: value, later: other}), first.upper())
        self.assertEqual(self.refused(**{name: WRONG[name][0] for name in NAMES}), "LETTERS")
        self.assertEqual(self.refused(**{name: WRONG[name][0] for name in NAMES[2:]}), "ORDER")

    def test_letters_are_those_of_this_file(self):
        self.assertEqual(made(letters="abc", pieces=("c",), order=()).pieces, ("c",))
        self.assertEqual(self.refused(pieces=("c",), order=()), "PIECES")

    def test_blocks_are_those_of_this_file(self):
        self.assertEqual(self.refused(pieces=("a",), order=(1,)), "ORDER")
        self.assertEqual(self.refused(pieces=("a",) * 4, order=(4,)), "ORDER")

    def test_wrong_arguments_are_not_modified(self):
        pieces, order = ["a", "b"], [0, 1]
        self.assertEqual(self.refused(pieces=pieces), "PIECES")
        self.assertEqual(self.refused(order=order), "ORDER")
        self.assertEqual((pieces, order), (["a", "b"], [0, 1]))


if __name__ == "__main__":
    unittest.main()
