"""Tests of safepatch.texts: files and writes in lines ([14])."""

import random
import unittest
from itertools import product

from safepatch.errors import BadFile, BadText, BadWrites
from safepatch.files import File
from safepatch.texts import file_text, read_file, read_writes, writes_text
from safepatch.writes import after, all_writes, apply
from tests.samples import (
    FILE,
    NOT_FILES,
    NOT_WRITES,
    OTHER_KINDS,
    Case,
    file_like,
    parts,
    plain_writes,
    random_files,
    sample_files,
    words,
)

# The example of the interface, as it stands there.
EXAMPLE = r"""
>>> from safepatch.files import File
>>> from safepatch.sessions import Session
>>> from safepatch.spares import best_spares, fewest_spares, spare_costs
>>> from safepatch.texts import file_text, read_writes, writes_text
>>> file = File('ab', ('a', 'b'), (0, 1), order_price=2, torn=True)
>>> session = Session(file)
>>> found = [session.edit(('aim', 'a')), session.edit(('write', ('order', (1, 0)))), session.tried([('write', ('order', (0,)))]), session.edit(('write', ('piece', 1, ''))), session.aim, session.undo()]
>>> [found, session.current.text, file_text(file), writes_text(file, [('piece', 1, ''), ('order', ())]), read_writes(file, 'order 1 1\n'), spare_costs(file, 'ba'), fewest_spares(file, 'ba'), best_spares(file, 'a')]
[[None, 'no', ['new'], 'new', None, (('write', ('piece', 1, '')), 'new')], 'ab', 'letters ab\npiece a\npiece b\norder 0 1\npiece_price 1\norder_price 2\ntorn yes\n', 'piece 1 -\norder -\n', [('order', (1, 1))], [None, 3, 3], 1, (0, 1)]
"""

LINES = ["letters ab", "piece ab", "piece -", "piece b", "order 2 0", "piece_price 3", "order_price 5", "torn no"]
LARGE = File("abc", ("a", "c", "", "ba"), (3, 0, 1), torn=True)
# Ends of lines that are not a line feed, and figures that are not 0 to 9: some are digits, and some are even decimal.
OTHER_ENDS = ["\r", "\x0b", "\x0c", "\x1c", "\x85", "\u2028", "\u2029", "\t", "\xa0", "\x00"]
OTHER_FIGURES = ["\u0661", "\uff11", "\xb9", "\u2460", "\u0967", "\xbd", "I", "one", "1.0", "0x1", "1_", "1e0"]


def joined(lines):
    """Return lines, each terminated by a line feed."""
    return "".join(line + "\n" for line in lines)


def plain_file_text(file):
    """Return the lines of a file, from [14] alone."""
    lines = ["letters " + file.letters]
    lines += ["piece " + (piece if piece else "-") for piece in file.pieces]
    lines.append("order " + (" ".join(map(str, file.order)) if file.order else "-"))
    lines += ["piece_price " + str(file.piece_price), "order_price " + str(file.order_price)]
    return joined([*lines, "torn " + {True: "yes", False: "no"}[file.torn]])


def plain_write_line(write):
    """Return the line of a write, from [14] alone."""
    if write[0] == "order":
        return "order " + (" ".join(map(str, write[1])) if write[1] else "-")
    return "piece " + str(write[1]) + " " + (write[2] if write[2] else "-")


def broken(line):
    """Return lines that are a right one with a wrong space, case or character, or with a word too many or too few."""
    parted = line.split(" ")
    found = [line + " ", " " + line, line.replace(" ", "  ", 1), line.replace(" ", "\t", 1), line.replace(" ", "")]
    found += [line + " -", line + " 0 0 0", line + " a a", line + "-", line + "x", parted[0], parted[0] + " ", ""]
    found += [line.upper(), line.capitalize(), line[1:], " ".join(parted[1:]), " ", "-", "- -", line + "\xa0"]
    found += [line + end for end in OTHER_ENDS] + [line.replace(" ", end, 1) for end in OTHER_ENDS]
    return found + ["x " + line, "#" + line, line + " " + line, "'" + line + "'"]


class ExampleTest(Case):
    def test_the_example_of_the_interface(self):
        self.assert_example(EXAMPLE, 8)


class FileTextTest(Case):
    def test_held_against_the_plain_words_and_back(self):
        for file in sample_files() + random_files(2, {("ab", 1): 9, ("abc", 2): 9, ("ab", 3): 9, ("abc", 4): 9}):
            with self.subTest(parts(file)):
                self.assertEqual(file_text(file), plain_file_text(file))
                self.assertEqual(read_file(file_text(file)), file)

    def test_all_pieces_orders_prices_and_letters(self):
        for letters in ("ab", "abc"):
            for piece in words(letters, 2):
                file = File(letters, (piece, ""), (1,))
                self.assertEqual(read_file(plain_file_text(file)), file)
        for blocks in range(1, 5):
            for order in [order for size in range(4) for order in product(range(blocks), repeat=size)]:
                file = File("ab", ("a", "", "b", "ab")[:blocks], order)
                self.assertEqual(file_text(file), plain_file_text(file))
                self.assertEqual(read_file(plain_file_text(file)), file)
        for piece_price, order_price, torn in product(range(1, 6), range(1, 6), [False, True]):
            file = File("ab", ("a",), (0,), piece_price=piece_price, order_price=order_price, torn=torn)
            self.assertEqual(read_file(plain_file_text(file)), file)
            self.assertIs(read_file(plain_file_text(file)).torn, torn)

    def test_by_hand(self):
        empty = "letters abc\npiece -\norder -\npiece_price 1\norder_price 1\ntorn no\n"
        self.assertEqual(file_text(File("abc", ("",), ())), empty)
        self.assertEqual(read_file(empty), File("abc", ("",), ()))
        found = read_file(joined(LINES))
        self.assertEqual(found, File("ab", ("ab", "", "b"), (2, 0), piece_price=3, order_price=5))
        self.assertEqual(file_text(found), joined(LINES))

    def test_refused(self):
        for value in NOT_FILES:
            self.assertIsNone(self.assert_refused(BadFile, file_text, value).part)


class ReadFileTest(Case):
    def assert_row(self, row, lines):
        found = self.assert_refused(BadText, read_file, lines).row
        self.assertEqual((found, found.__class__), (row, int), lines)

    def assert_line(self, row, line):
        """Assert that a line is refused in the place of another one, with and without the lines behind it."""
        self.assert_row(row, joined([*LINES[:row], line, *LINES[row + 1:]]))
        self.assert_row(row, joined([*LINES[:row], line]))

    def test_no_string(self):
        for value in [*OTHER_KINDS, [], LINES, tuple(LINES), b"letters ab\n", joined(LINES).encode(), FILE]:
            self.assert_row(0, value)

    def test_each_line_broken(self):
        for row, line in enumerate(LINES):
            for wrong in broken(line):
                with self.subTest(row=row, line=wrong):
                    self.assert_line(row, wrong)

    def test_each_line_at_another_place(self):
        # One piece may be there instead of another one, an order behind each of them, and a piece behind all of them.
        allowed = [(row, other) for row in range(1, 5) for other in range(1, 5) if (row, other) != (1, 4)]
        for row, other in product(range(len(LINES)), repeat=2):
            if row != other and (row, other) not in allowed:
                self.assert_line(row, LINES[other])
        self.assert_row(5, joined([*LINES[:4], "piece a", *LINES[5:]]))
        self.assert_row(3, joined([*LINES[:3], LINES[4], *LINES[4:]]))

    def test_wrong_letters(self):
        for word in ["a", "b", "ba", "abcd", "ac", "abb", "-", "AB", "a b", "ab c", "", "0", "1"]:
            self.assert_line(0, "letters " + word)

    def test_wrong_pieces(self):
        for word in ["aba", "c", "ac", "A", "--", "a-", "-a", "a b", "0", "", "\xe4", "\u0430", "a\x00"]:
            for row in (1, 2, 3):
                self.assert_line(row, "piece " + word)

    def test_letters_of_the_file(self):
        three = ["letters abc", "piece c", *LINES[4:]]
        three[2] = "order 0"
        self.assertEqual(read_file(joined(three)).pieces, ("c",))
        self.assert_row(1, joined(["letters ab", *three[1:]]))

    def test_wrong_orders(self):
        for word in ["3", "0 3", "-1", "+1", "00", "01", "0 1 2 0", "0 0 0 0", "10", "0,1", "a", "- -", "0 -", "-0", ""]:
            self.assert_line(4, "order " + word)
        for figure in OTHER_FIGURES:
            self.assert_line(4, "order " + figure)
            self.assert_line(4, "order 0 " + figure)

    def test_blocks_of_the_file(self):
        for pieces in range(1, 5):
            rest = ["piece_price 1", "order_price 1", "torn yes"]
            start = ["letters ab", *["piece a"] * pieces]
            for block in range(6):
                text = joined([*start, f"order 0 {block}", *rest])
                if block < pieces:
                    self.assertEqual(read_file(text).order, (0, block))
                else:
                    self.assert_row(pieces + 1, text)

    def test_wrong_prices(self):
        wrong = ["0", "6", "10", "-1", "+1", "01", "1 ", "1 1", "-", "", "a", "00", "11", str(10**30), *OTHER_FIGURES]
        for row, name in [(5, "piece_price"), (6, "order_price")]:
            for word in wrong:
                self.assert_line(row, f"{name} {word}")

    def test_wrong_torn(self):
        for word in ["Yes", "NO", "true", "False", "1", "0", "-", "", "yes no", "y", "n", "noo"]:
            self.assert_line(7, "torn " + word)

    def test_pieces_none_and_too_many(self):
        self.assert_row(1, joined([LINES[0], *LINES[4:]]))
        self.assertEqual(len(read_file(joined([LINES[0], *["piece a"] * 4, *LINES[4:]]))), 4)
        self.assert_row(5, joined([LINES[0], *["piece a"] * 5, *LINES[4:]]))
        self.assert_row(5, joined([LINES[0], *["piece a"] * 9]))

    def test_lines_missing(self):
        for many in range(len(LINES)):
            self.assert_row(many, joined(LINES[:many]))

    def test_a_line_left_out(self):
        # Without one piece, the order is wrong; without any other line, the one behind it.
        for row, expected in [(0, 0), (1, 3), (2, 3), (3, 3), (4, 4), (5, 5), (6, 6), (7, 7)]:
            self.assert_row(expected, joined(LINES[:row] + LINES[row + 1:]))

    def test_a_line_too_many(self):
        for more in ["torn no", "", " ", "-", "order 0", "x", LINES[0]]:
            self.assert_row(8, joined([*LINES, more]))
            self.assert_row(8, joined([*LINES, more, *LINES]))
        self.assert_row(8, joined(LINES) + "\n")
        self.assert_row(0, "\n" + joined(LINES))

    def test_characters_behind_the_last_line_feed(self):
        for rest in ["x", " ", "torn no", "\r", "-", "\x00"]:
            self.assert_row(8, joined(LINES) + rest)
            for many in range(8):
                self.assert_row(many, joined(LINES[:many]) + rest)
        # Only what is terminated is a line: these are seven lines, and characters behind them.
        self.assert_row(7, joined(LINES)[:-1])
        # A wrong line comes before what follows the last line feed, and before lines that are missing.
        self.assert_row(1, joined([LINES[0], "piece c", LINES[2]]) + "x")
        self.assert_row(8, joined([*LINES, "x"]) + "x")

    def test_no_line_at_all(self):
        for text in ["", "x", " ", "letters ab", "\n", "\r\n", "\n\n\n", "-"]:
            self.assert_row(0, text)

    def test_the_first_of_several(self):
        for first in range(len(LINES)):
            for later in range(first + 1, len(LINES)):
                lines = list(LINES)
                lines[first] = lines[later] = "x"
                self.assert_row(first, joined(lines))

    def test_other_ends_of_lines(self):
        for end in OTHER_ENDS:
            self.assert_row(0, joined(LINES).replace("\n", end))
            self.assert_row(0, joined(LINES).replace("\n", end + "\n"))
            for row in range(len(LINES)):
                self.assert_line(row, LINES[row] + end)


class WritesTextTest(Case):
    def test_each_write_there_and_back(self):
        for file in sample_files():
            for write in plain_writes(file):
                line = plain_write_line(write) + "\n"
                self.assertEqual(writes_text(file, [write]), line)
                self.assertEqual(read_writes(file, line), [write])

    def test_many_writes_there_and_back(self):
        chance = random.Random(6)
        for file in sample_files():
            writes, reached = [], file
            for _ in range(12):
                writes.append(chance.choice(all_writes(reached)))
                reached = after(reached, writes[-1])
            text = joined([plain_write_line(write) for write in writes])
            for given in (writes, tuple(writes)):
                self.assertEqual(writes_text(file, given), text)
            found = read_writes(file, text)
            self.assertEqual((found, found.__class__), (writes, list))
            self.assertEqual(apply(file, found), reached)

    def test_none_at_all(self):
        for file in sample_files():
            self.assertEqual([writes_text(file, []), writes_text(file, ())], ["", ""])
            self.assertEqual(read_writes(file, ""), [])

    def test_by_hand(self):
        writes = [("piece", 0, ""), ("piece", 3, "cc"), ("order", ()), ("order", (3, 3, 0)), ("order", (2,))]
        text = "piece 0 -\npiece 3 cc\norder -\norder 3 3 0\norder 2\n"
        self.assertEqual(writes_text(LARGE, writes), text)
        self.assertEqual(read_writes(LARGE, text), writes)

    def test_no_file(self):
        for value in NOT_FILES:
            for writes in [[], None, [None], [("order", ())]]:
                self.assertIsNone(self.assert_refused(BadFile, writes_text, value, writes).part)

    def test_no_list_or_tuple(self):
        for value in [*OTHER_KINDS, "", "ab", {("order", ()): 1}, iter([("order", ())])]:
            self.assertIsNone(self.assert_refused(BadWrites, writes_text, FILE, value).index)

    def test_what_is_no_write_at_each_place(self):
        good = [("piece", 2, "a"), ("order", (2, 2)), ("piece", 2, "bb")]
        wrong = [value for value in NOT_WRITES if value not in [("piece", 2, ""), ("order", (0, 1))]]
        for value in wrong:
            for index in range(4):
                for given in (list, tuple):
                    writes = given(good[:index] + [value] + good[index:])
                    self.assertEqual(self.assert_refused(BadWrites, writes_text, FILE, writes).index, index)
        self.assertEqual(self.assert_refused(BadWrites, writes_text, FILE, [("order", ()), ("order", ())]).index, 1)


class ReadWritesTest(Case):
    def assert_row(self, row, lines, file=FILE):
        found = self.assert_refused(BadText, read_writes, file, lines).row
        self.assertEqual((found, found.__class__), (row, int), lines)

    def assert_line(self, line, file=FILE):
        """Assert that a line is refused, as the first one, behind others and before others."""
        good = ["piece 2 bb", "piece 2 -", "order 2 2", "order -"]
        for row in range(len(good) + 1):
            self.assert_row(row, joined([*good[:row], line]), file)
            self.assert_row(row, joined([*good[:row], line, *good[row:], "x"]) + "x", file)

    def test_no_file(self):
        for value in NOT_FILES:
            for lines in ["", "order -\n", None, "x"]:
                self.assertIsNone(self.assert_refused(BadFile, read_writes, value, lines).part)

    def test_no_string(self):
        for value in [*OTHER_KINDS, [], ["order -"], ("order -\n",), b"order -\n", FILE, [("order", ())]]:
            self.assert_row(0, value)

    def test_broken_lines(self):
        for line in ["piece 0 a", "piece 2 bb", "piece 1 -", "order 2 1", "order 1", "order -"]:
            for wrong in broken(line):
                with self.subTest(wrong):
                    self.assert_line(wrong)

    def test_wrong_names(self):
        for name in ["Piece", "pieces", "PIECE", "block", "0", "-", "letters", "piece_price", "aim", "write"]:
            self.assert_line(f"{name} 0 a")
        for name in ["Order", "orders", "ord", "0", "-", "torn", "order_price", "piece"]:
            self.assert_line(f"{name} 0")
            self.assert_line(f"{name} -")

    def test_wrong_words(self):
        self.assert_line("piece 0")
        self.assert_line("piece a")
        self.assert_line("piece 0 a b")
        self.assert_line("piece 0 a 0")
        self.assert_line("piece - a")
        self.assert_line("piece 0 --")
        self.assert_line("order")
        self.assert_line("order - -")
        self.assert_line("order 0 -")
        self.assert_line("order - 0")
        self.assert_line("order 0 0 0 0")
        self.assert_line("")
        self.assert_line("order ")
        self.assert_line("piece 0 ")

    def test_wrong_numbers(self):
        for word in ["3", "4", "-1", "-0", "+0", "00", "01", "0.0", "a", "1a", str(10**30), *OTHER_FIGURES]:
            self.assert_line(f"piece {word} a")
            self.assert_line(f"order {word}")
            self.assert_line(f"order 0 {word}")

    def test_wrong_pieces(self):
        for word in ["c", "aaa", "aba", "A", "ac", "-a", "a-", "\xe4", "\u0430"]:
            self.assert_line(f"piece 0 {word}")

    def test_letters_and_blocks_of_the_file(self):
        self.assertEqual(read_writes(LARGE, "piece 3 c\norder 3 2\n"), [("piece", 3, "c"), ("order", (3, 2))])
        small = file_like(LARGE, (("a",), ()))
        self.assertEqual(read_writes(small, "piece 0 c\n"), [("piece", 0, "c")])
        self.assert_row(0, "piece 1 c\n", small)
        self.assert_row(1, "order 0 0\norder 1\n", small)

    def test_what_changes_nothing(self):
        for line in ["piece 0 ab", "piece 1 b", "piece 2 -", "order 0 1"]:
            self.assert_row(0, line + "\n")
        for file in sample_files():
            self.assert_row(0, plain_write_line(("order", file.order)) + "\n", file)
            for block, piece in enumerate(file.pieces):
                self.assert_row(0, plain_write_line(("piece", block, piece)) + "\n", file)

    def test_what_changes_nothing_only_because_of_one_before(self):
        self.assert_row(1, "order 1\norder 1\n")
        self.assert_row(2, "piece 0 b\norder -\npiece 0 b\n")
        self.assert_row(2, "piece 0 b\npiece 0 ab\npiece 0 ab\n")
        # And what changes something only because of one before.
        self.assertEqual(read_writes(FILE, "piece 0 b\npiece 0 ab\n"), [("piece", 0, "b"), ("piece", 0, "ab")])

    def test_characters_behind_the_last_line_feed(self):
        for rest in ["x", "order -", " ", "\r", "-", "piece 0 a"]:
            self.assert_row(0, rest)
            self.assert_row(1, "order 1\n" + rest)
            self.assert_row(2, "order 1\norder 2\n" + rest)
        self.assert_row(0, "order 3\norder 1")

    def test_empty_lines(self):
        for text, row in [("\n", 0), ("\norder 1\n", 0), ("order 1\n\n", 1), ("order 1\n\norder 2\n", 1)]:
            self.assert_row(row, text)

    def test_other_ends_of_lines(self):
        for end in OTHER_ENDS:
            self.assert_row(0, "order 1" + end)
            self.assert_row(0, f"order 1{end}order 2\n")
            self.assert_row(1, f"order 1\norder 2{end}\n")

    def test_many_lines(self):
        writes = [("order", (1,)), ("order", (0, 1))] * 5000
        self.assertEqual(read_writes(FILE, writes_text(FILE, writes)), writes)
        self.assert_row(10000, writes_text(FILE, writes) + "order 0 1\n")


class KeptTest(Case):
    def test_results_and_arguments(self):
        writes = [("piece", 2, "a"), ("order", (2,))]
        text = writes_text(FILE, writes)
        self.assertEqual(writes, [("piece", 2, "a"), ("order", (2,))])
        found = read_writes(FILE, text)
        self.assertEqual(found, writes)
        found.clear()
        self.assertEqual(read_writes(FILE, text), writes)
        writes.pop()
        self.assertEqual(text, "piece 2 a\norder 2\n")
        self.assertEqual(writes_text(FILE, writes), "piece 2 a\n")

    def test_files_do_not_change(self):
        before = parts(FILE)
        text = file_text(FILE)
        read_writes(FILE, "order 1\npiece 0 -\n")
        writes_text(FILE, [("order", (1,))])
        self.assertEqual(parts(FILE), before)
        self.assertEqual(file_text(FILE), text)
        self.assertIsNot(read_file(text), FILE)


if __name__ == "__main__":
    unittest.main()
