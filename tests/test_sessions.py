"""Tests of safepatch.sessions: edits, undoing, branches and trials ([13])."""

import random
import unittest

from safepatch.errors import BadEdit, BadFile, BadWrite, NothingDone
from safepatch.files import File
from safepatch.plans import Plan, plan
from safepatch.sessions import Session
from safepatch.tidying import NoTidying, Tidying
from safepatch.writes import after, safe_writes
from tests.samples import (
    FILE,
    NOT_FILES,
    NOT_TEXTS,
    NOT_WRITES,
    OTHER_KINDS,
    Alike,
    Case,
    file_like,
    parts,
    plain_after,
    plain_readings,
    plain_text,
    plain_writes,
    random_files,
    random_text,
)

# Of the last example of the interface, which test_texts.py has whole, what needs only files and sessions.
EXAMPLE = """
>>> from safepatch.files import File
>>> from safepatch.sessions import Session
>>> file = File('ab', ('a', 'b'), (0, 1), order_price=2, torn=True)
>>> session = Session(file)
>>> found = [session.edit(('aim', 'a')), session.edit(('write', ('order', (1, 0)))), session.tried([('write', ('order', (0,)))]), session.edit(('write', ('piece', 1, ''))), session.aim, session.undo()]
>>> [found, session.current.text]
[[None, 'no', ['new'], 'new', None, (('write', ('piece', 1, '')), 'new')], 'ab']
"""

KINDS = {("ab", 1): 8, ("ab", 2): 14, ("ab", 3): 12, ("abc", 2): 8, ("abc", 4): 6}
TORN = File("ab", ("a", "b", ""), (0, 1), torn=True)
WHOLE = File("ab", ("a", "b", ""), (0, 1))
AIM = ("aim", "ba")
FILL = ("write", ("piece", 2, "ba"))
TURN = ("write", ("order", (2,)))
WRONG = ("write", ("order", (1, 0)))

# What is not an edit of a session with FILE.
NOT_EDITS = [
    *OTHER_KINDS,
    "",
    "aim",
    "ab",
    (),
    [],
    ("aim",),
    ("write",),
    ("a",),
    ["aim", "a"],
    ["write", ("order", ())],
    ("aim", "a", "b"),
    ("write", ("order", ()), 1),
    ("order", ()),
    ("piece", 0, "a"),
    ("Aim", "a"),
    ("WRITE", ("order", ())),
    ("aims", "a"),
    ("undo", "a"),
    ("write", "a"),
    ("aim", ("order", ())),
    (b"aim", "a"),
    (None, "a"),
    (["aim"], "a"),
    (True, ("order", ())),
    ({}, {}),
    ("a", "im"),
    Alike(),
    (Alike(), "a"),
    (Alike(), ("order", ())),
    ("aim", Alike()),
    ("write", Alike()),
    ("write", (Alike(), ())),
    *[("aim", value) for value in NOT_TEXTS],
    *[("write", value) for value in NOT_WRITES],
]


def seen(session):
    """Return all that a session shows."""
    return parts(session.current), session.aim, session.journal, len(session)


def undone(session):
    """Return all pairs that can be undone in a branch of a session, the last one first."""
    branch = session.branch()
    return [branch.undo() for _ in range(len(branch))]


class Model:
    """What [13] says of a session: all its edits, which are made anew from the first file each time."""

    def __init__(self, file, edits=()):
        self.file = file
        self.edits = list(edits)
        self.begun = [0]

    def seen(self):
        """Return all that the session has to show."""
        file, aim, journal = self.file, None, []
        for edit in self.edits:
            file, aim, answer = self.edited(file, aim, edit)
            journal.append((edit, answer))
        return parts(file), aim, journal, len(journal)

    def edited(self, file, aim, edit):
        """Return the file, the aim and the answer behind an edit."""
        kind, value = edit
        old = plain_text(file.pieces, file.order)
        if kind == "aim":
            return file, None if value == old else value, None
        left = file_like(file, plain_after(file.pieces, file.order, value))
        new = plain_text(left.pieces, left.order)
        if any(text not in (old, aim) for text in [*plain_readings(file, value), new]):
            return file, aim, "no"
        return (left, aim, "old") if new == old else (left, None, "new")

    def current(self):
        """Return the file."""
        file, aim = self.file, None
        for edit in self.edits:
            file, aim, _ = self.edited(file, aim, edit)
        return file

    def undo(self):
        """Return the pair that is taken back, None if there is none to take back."""
        if len(self.edits) == self.begun[-1]:
            return None
        pair = self.seen()[2][-1]
        self.edits.pop()
        return pair


class ExampleTest(Case):
    def test_the_example_of_the_interface(self):
        self.assert_example(EXAMPLE, 6)


class EditTest(Case):
    def assert_edit(self, session, edit, answer, aim, text):
        """Assert that an edit has this answer, and the aim and the text behind it; and that undoing takes it back."""
        before = seen(session)
        self.assertEqual(session.edit(edit), answer)
        self.assertEqual((session.aim, session.current.text), (aim, text))
        self.assertEqual(session.journal, [*before[2], (edit, answer)])
        self.assertEqual(len(session), before[3] + 1)
        behind = seen(session)
        self.assertEqual(session.undo(), (edit, answer))
        self.assertEqual(seen(session), before)
        self.assertEqual(session.edit(edit), answer)
        self.assertEqual(seen(session), behind)

    def test_at_first(self):
        for file in [TORN, WHOLE, FILE]:
            session = Session(file)
            self.assertEqual(session.current, file)
            self.assertIsNone(session.aim)
            self.assertEqual((session.journal, len(session)), ([], 0))
            self.assertIs(session.journal.__class__, list)

    def test_aims(self):
        session = Session(TORN)
        self.assert_edit(session, ("aim", "ba"), None, "ba", "ab")
        self.assert_edit(session, ("aim", ""), None, "", "ab")
        self.assert_edit(session, ("aim", ""), None, "", "ab")
        self.assert_edit(session, ("aim", "ab"), None, None, "ab")
        self.assert_edit(session, ("aim", "ab"), None, None, "ab")
        self.assert_edit(session, ("aim", "ababab"), None, "ababab", "ab")
        self.assertEqual(session.current, TORN)
        self.assertEqual({answer for _, answer in session.journal}, {None})

    def test_a_change_to_an_aim(self):
        session = Session(TORN)
        self.assert_edit(session, AIM, None, "ba", "ab")
        self.assert_edit(session, WRONG, "no", "ba", "ab")
        self.assert_edit(session, TURN, "no", "ba", "ab")
        self.assert_edit(session, FILL, "old", "ba", "ab")
        self.assert_edit(session, TURN, "new", None, "ba")
        # Now, the aim is reached: back to the old text it takes another one.
        self.assert_edit(session, ("write", ("order", (0, 1))), "no", None, "ba")
        self.assert_edit(session, ("aim", "ba"), None, None, "ba")
        self.assert_edit(session, ("aim", "b"), None, "b", "ba")
        self.assert_edit(session, ("write", ("order", (1,))), "new", None, "b")
        self.assertEqual(session.current, file_like(TORN, (("a", "b", "ba"), (1,))))

    def test_without_an_aim(self):
        session = Session(TORN)
        self.assert_edit(session, ("write", ("order", ())), "no", None, "ab")
        self.assert_edit(session, ("write", ("piece", 2, "ab")), "old", None, "ab")
        self.assert_edit(session, ("write", ("order", (2,))), "old", None, "ab")
        self.assert_edit(session, ("write", ("piece", 2, "")), "no", None, "ab")
        self.assert_edit(session, ("write", ("piece", 0, "bb")), "old", None, "ab")

    def test_torn_and_whole_writes(self):
        whole, torn = Session(WHOLE), Session(TORN)
        for session in (whole, torn):
            session.edit(AIM)
        self.assert_edit(whole, WRONG, "new", None, "ba")
        self.assert_edit(torn, WRONG, "no", "ba", "ab")

    def test_the_aim_is_read_only_if_the_write_is_torn(self):
        file = File("ab", ("a", ""), (0, 0), torn=True)
        session = Session(file)
        write = ("write", ("order", (0, 1, 0)))
        self.assertEqual(plain_readings(file, write[1]), ["aa", "aa", "a", "aa"])
        self.assert_edit(session, write, "no", None, "aa")
        self.assert_edit(session, ("aim", "a"), None, "a", "aa")
        self.assert_edit(session, write, "old", "a", "aa")
        self.assert_edit(session, ("write", ("order", (0, 1))), "new", None, "a")

    def test_each_write_of_many_files(self):
        answers = set()
        chance = random.Random(61)
        for file in random_files(62, KINDS):
            for aim in [None, random_text(chance, file), random_text(chance, file)]:
                session = Session(file)
                if aim is not None:
                    session.edit(("aim", aim))
                before = seen(session)
                texts = {file.text, session.aim}
                for write in plain_writes(file)[:: chance.randrange(1, 6)]:
                    safe = set(plain_readings(file, write)) <= texts
                    left = after(file, write)
                    expected = "no" if not safe else "old" if left.text == file.text else "new"
                    self.assertEqual(session.edit(("write", write)), expected)
                    self.assertEqual(session.current, left if safe else file)
                    self.assertEqual(session.aim, None if expected == "new" else before[1])
                    self.assertEqual(session.undo(), (("write", write), expected))
                    self.assertEqual(seen(session), before)
                    answers.add((expected, aim is None))
        self.assertEqual(answers, {("no", True), ("no", False), ("old", True), ("old", False), ("new", False)})

    def test_changes_that_plans_have(self):
        many = 0
        for file in random_files(63, {("ab", 1): 10, ("ab", 2): 10}):
            for text in ("", "a", "ba", "abab"):
                found = plan(file, text)
                if found.__class__ is Plan and found.writes:
                    session = Session(file)
                    edits = [("aim", text), *[("write", write) for write in found.writes]]
                    answers = [session.edit(edit) for edit in edits]
                    self.assertEqual(answers, [None, *["old"] * (len(found.writes) - 1), "new"])
                    self.assertEqual((session.current.text, session.aim), (text, None))
                    many += 1
        self.assertGreater(many, 20)

    def test_prices_letters_and_tearing_remain(self):
        session = Session(FILE)
        for edit in [("aim", "b"), ("write", ("order", (1,))), ("write", ("piece", 0, "aa")), ("aim", "")]:
            session.edit(edit)
            file = session.current
            shown = (file.letters, file.piece_price, file.order_price, file.torn)
            self.assertEqual(shown, (FILE.letters, FILE.piece_price, FILE.order_price, FILE.torn))


class UndoTest(Case):
    def test_everything_as_if_it_had_not_been_made(self):
        session, shown = Session(TORN), []
        edits = [AIM, WRONG, FILL, TURN, ("aim", "a"), ("aim", "ba"), ("write", ("piece", 0, "")), WRONG, ("aim", "")]
        for edit in edits:
            shown.append(seen(session))
            session.edit(edit)
        pairs = session.journal
        for before, pair in zip(shown[::-1], pairs[::-1]):
            self.assertEqual(session.undo(), pair)
            self.assertEqual(seen(session), before)
        self.assert_refused(NothingDone, session.undo)
        self.assertEqual(seen(session), shown[0])

    def test_the_pair(self):
        session = Session(TORN)
        session.edit(AIM)
        session.edit(WRONG)
        self.assertEqual(session.undo(), (WRONG, "no"))
        found = session.undo()
        self.assertEqual(found, (AIM, None))
        self.assertIs(found.__class__, tuple)

    def test_nothing_done(self):
        session = Session(TORN)
        for _ in range(2):
            self.assert_refused(NothingDone, session.undo)
            self.assertEqual(seen(session), seen(Session(TORN)))
        session.edit(AIM)
        session.undo()
        self.assert_refused(NothingDone, session.undo)
        session.edit(FILL)
        self.assertEqual(session.undo(), (FILL, "old"))

    def test_the_aim_comes_back(self):
        session = Session(TORN)
        for edit in (AIM, FILL, TURN):
            session.edit(edit)
        self.assertIsNone(session.aim)
        session.undo()
        self.assertEqual(session.aim, "ba")
        self.assertEqual(session.edit(TURN), "new")


class BranchTest(Case):
    def test_the_same_file_aim_and_journal(self):
        session = Session(TORN)
        for edit in [AIM, WRONG, FILL, TURN, ("aim", "")]:
            branch = session.branch()
            self.assertIs(branch.__class__, Session)
            self.assertIsNot(branch, session)
            self.assertEqual(seen(branch), seen(session))
            session.edit(edit)

    def test_independent(self):
        session = Session(TORN)
        session.edit(AIM)
        session.edit(FILL)
        branch, other = session.branch(), session.branch()
        before = seen(session)
        self.assertEqual(branch.edit(TURN), "new")
        other.undo()
        other.undo()
        self.assertEqual(seen(session), before)
        self.assertEqual(len(branch), 3)
        self.assertEqual(seen(other), seen(Session(TORN)))
        behind = seen(branch)
        session.edit(("aim", ""))
        session.edit(("write", ("order", ())))
        self.assertEqual((seen(branch), session.current.text), (behind, ""))
        self.assertEqual(branch.undo(), (TURN, "new"))
        self.assertEqual(seen(branch), before)

    def test_all_edits_can_be_undone(self):
        session = Session(TORN)
        for edit in (AIM, FILL, TURN):
            session.edit(edit)
        branch = session.branch().branch()
        self.assertEqual([branch.undo() for _ in range(3)], session.journal[::-1])
        self.assert_refused(NothingDone, branch.undo)
        self.assertEqual(seen(branch), seen(Session(TORN)))
        self.assertEqual(len(session), 3)

    def test_in_a_trial(self):
        session = Session(TORN)
        session.edit(AIM)
        with session.trial():
            session.edit(FILL)
            with session.trial():
                session.edit(TURN)
                branch = session.branch()
                shown = seen(session)
                # In the branch, there is no trial: also the edits before are its own.
                self.assertEqual([pair[0] for pair in undone(session)], [TURN, FILL, AIM])
                self.assertEqual(len(session), 3)
        self.assertEqual(len(session), 1)
        self.assertEqual(seen(branch), shown)
        self.assertEqual([branch.undo()[0] for _ in range(3)], [TURN, FILL, AIM])
        self.assert_refused(NothingDone, branch.undo)

    def test_trials_of_both(self):
        session = Session(TORN)
        session.edit(AIM)
        branch = session.branch()
        with session.trial():
            session.edit(FILL)
            with branch.trial():
                branch.edit(WRONG)
                self.assertEqual((len(session), len(branch)), (2, 2))
                self.assertEqual(session.undo()[0], FILL)
                self.assert_refused(NothingDone, session.undo)
                self.assertEqual(branch.undo()[0], WRONG)
                self.assert_refused(NothingDone, branch.undo)
                branch.edit(WRONG)
            session.edit(WRONG)
            self.assertEqual((len(session), len(branch)), (2, 1))
            self.assertEqual(branch.undo()[0], AIM)
        self.assertEqual((len(session), len(branch)), (1, 0))

    def test_an_edit_in_a_branch_of_a_session_in_a_trial(self):
        session = Session(TORN)
        with session.trial():
            branch = session.branch()
            branch.edit(AIM)
            self.assertEqual(len(session), 0)
        self.assertEqual(len(branch), 1)


class Stop(Exception):
    """An error of the tests' own."""


class TrialTest(Case):
    def begun(self):
        """Return a session with two edits."""
        session = Session(TORN)
        session.edit(AIM)
        session.edit(FILL)
        return session

    def test_it_gives_the_session_itself(self):
        session = self.begun()
        with session.trial() as inner:
            self.assertIs(inner, session)
            with inner.trial() as third:
                self.assertIs(third, session)
        with session.trial() as inner:
            self.assertIs(inner, session)

    def test_all_is_as_at_its_beginning(self):
        session = self.begun()
        before, pairs = seen(session), undone(session)
        with session.trial():
            self.assertEqual(seen(session), before)
            # Torn, the last one leaves the order (1,), which reads the aim.
            self.assertEqual([session.edit(edit) for edit in (TURN, ("aim", "b"), WRONG)], ["new", None, "old"])
            self.assertEqual(len(session), 5)
        self.assertEqual((seen(session), undone(session)), (before, pairs))
        self.assertEqual(session.edit(TURN), "new")
        self.assertEqual([session.undo()[0] for _ in range(3)], [TURN, FILL, AIM])

    def test_what_was_undone_in_it(self):
        session = self.begun()
        before = seen(session)
        with session.trial():
            session.edit(TURN)
            session.undo()
            session.edit(("aim", ""))
            session.undo()
        self.assertEqual(seen(session), before)
        with session.trial():
            pass
        self.assertEqual(seen(session), before)

    def test_left_by_an_error(self):
        session = self.begun()
        before, pairs = seen(session), undone(session)
        raised = Stop("stop")
        for error in [raised, KeyboardInterrupt(), StopIteration(), BadEdit()]:
            with self.assertRaises(error.__class__) as caught:
                with session.trial():
                    session.edit(TURN)
                    raise error
            self.assertIs(caught.exception, error)
            self.assertEqual((seen(session), undone(session)), (before, pairs))

    def test_left_by_an_error_of_the_session(self):
        session = self.begun()
        before = seen(session)
        with self.assertRaises(NothingDone):
            with session.trial():
                session.edit(TURN)
                session.undo()
                session.undo()
        self.assertEqual(seen(session), before)
        with self.assertRaises(BadEdit):
            with session.trial():
                session.edit(TURN)
                session.edit(TURN)
        self.assertEqual(seen(session), before)
        self.assertEqual(session.undo(), (FILL, "old"))

    def test_left_by_return_break_and_continue(self):
        session = self.begun()
        before = seen(session)

        def leave():
            with session.trial():
                session.edit(TURN)
                return session.current.text

        self.assertEqual((leave(), seen(session)), ("ba", before))
        for _ in range(3):
            with session.trial():
                session.edit(TURN)
                continue
        self.assertEqual(seen(session), before)
        while True:
            with session.trial():
                session.edit(TURN)
                break
        self.assertEqual(seen(session), before)

    def test_within_one_another(self):
        session = self.begun()
        first = seen(session)
        with session.trial():
            session.edit(WRONG)
            second = seen(session)
            with session.trial():
                session.edit(TURN)
                third = seen(session)
                with session.trial():
                    session.edit(("aim", ""))
                    session.edit(("write", ("order", ())))
                    self.assertEqual(len(session), 6)
                self.assertEqual(seen(session), third)
                self.assertEqual(session.undo(), (TURN, "new"))
                self.assert_refused(NothingDone, session.undo)
                self.assertEqual(seen(session), second)
            self.assertEqual(seen(session), second)
            with session.trial():
                self.assert_refused(NothingDone, session.undo)
            self.assertEqual(session.undo(), (WRONG, "no"))
            self.assert_refused(NothingDone, session.undo)
            self.assertEqual(seen(session), first)
        self.assertEqual(seen(session), first)
        self.assertEqual(session.undo(), (FILL, "old"))

    def test_an_error_through_several_trials(self):
        session = self.begun()
        first = seen(session)
        with session.trial():
            session.edit(WRONG)
            second = seen(session)
            with self.assertRaises(Stop):
                with session.trial():
                    session.edit(TURN)
                    with session.trial():
                        session.edit(("aim", ""))
                        raise Stop
            self.assertEqual(seen(session), second)
            self.assertEqual(session.undo(), (WRONG, "no"))
        self.assertEqual(seen(session), first)

    def test_only_its_own_edits_can_be_undone(self):
        session = self.begun()
        with session.trial():
            for _ in range(2):
                self.assert_refused(NothingDone, session.undo)
                self.assertEqual(len(session), 2)
            session.edit(TURN)
            self.assertEqual(session.undo(), (TURN, "new"))
            self.assert_refused(NothingDone, session.undo)
            self.assertEqual(seen(session), seen(self.begun()))
        self.assertEqual(session.undo(), (FILL, "old"))
        self.assertEqual(session.undo(), (AIM, None))

    def test_it_begins_with_the_block(self):
        session = Session(TORN)
        trial = session.trial()
        session.edit(AIM)
        with trial:
            self.assertEqual(session.aim, "ba")
            session.edit(FILL)
        self.assertEqual(session.journal, [(AIM, None)])
        self.assertEqual(session.undo(), (AIM, None))

    def test_a_trial_that_never_begins(self):
        session = self.begun()
        session.trial()
        self.assertEqual(session.edit(TURN), "new")
        self.assertEqual(len(session), 3)
        self.assertEqual([session.undo()[0] for _ in range(3)], [TURN, FILL, AIM])

    def test_the_same_trial_again(self):
        session = self.begun()
        trial, before = session.trial(), seen(session)
        for _ in range(2):
            with trial as inner:
                self.assertIs(inner, session)
                session.edit(TURN)
            self.assertEqual(seen(session), before)
        session.undo()
        with trial:
            session.edit(("aim", "b"))
            with trial:
                session.edit(("aim", ""))
                self.assertEqual(session.undo(), (("aim", ""), None))
                self.assert_refused(NothingDone, session.undo)
            self.assertEqual(session.aim, "b")
            self.assertEqual(session.undo(), (("aim", "b"), None))
        self.assertEqual(session.journal, [(AIM, None)])

    def test_two_in_one_line(self):
        session = self.begun()
        before = seen(session)
        with session.trial() as one, session.trial() as other:
            self.assertIs(one, other)
            other.edit(TURN)
        self.assertEqual(seen(session), before)


class TriedTest(Case):
    def test_the_answers(self):
        session = Session(TORN)
        before = seen(session)
        for edits in ([AIM, WRONG, FILL, TURN], (AIM, WRONG, FILL, TURN)):
            found = session.tried(edits)
            self.assertEqual(found, [None, "no", "old", "new"])
            self.assertIs(found.__class__, list)
            self.assertEqual(seen(session), before)
        self.assertEqual([session.tried([]), session.tried(())], [[], []])

    def test_one_after_the_other(self):
        session = Session(TORN)
        self.assertEqual(session.tried([FILL, ("write", ("piece", 2, ""))]), ["old", "old"])
        self.assertEqual(session.tried([AIM, TURN, FILL, TURN, WRONG]), [None, "no", "old", "new", "no"])
        self.assertEqual(session.tried([("aim", "ab"), AIM, TURN]), [None, None, "no"])
        self.assertEqual(len(session), 0)

    def test_behind_other_edits_and_in_a_trial(self):
        session = Session(TORN)
        session.edit(AIM)
        with session.trial():
            session.edit(FILL)
            before = seen(session)
            self.assertEqual(session.tried([TURN, ("aim", "b")]), ["new", None])
            self.assertEqual(seen(session), before)
            self.assertEqual(session.undo(), (FILL, "old"))
            self.assert_refused(NothingDone, session.undo)
        self.assertEqual(session.journal, [(AIM, None)])
        self.assertEqual(session.undo(), (AIM, None))

    def test_twenty_and_more(self):
        session = Session(TORN)
        for many in (1, 19, 20):
            self.assertEqual(session.tried([AIM] * many), [None] * many)
        for many in (21, 22, 500):
            for edits in ([AIM] * many, (AIM,) * many, [None] * many):
                self.assert_refused(BadEdit, session.tried, edits)
        self.assertEqual(len(session), 0)

    def test_no_list_or_tuple(self):
        session = Session(TORN)
        session.edit(AIM)
        before = seen(session)
        for value in [*OTHER_KINDS, "", "ab", {AIM: 1}, iter([AIM]), Session(TORN)]:
            self.assert_refused(BadEdit, session.tried, value)
            self.assertEqual(seen(session), before)

    def test_what_is_no_edit_at_each_place(self):
        session = Session(FILE)
        session.edit(("aim", "b"))
        before, pairs = seen(session), undone(session)
        good = [("aim", "a"), ("write", ("piece", 2, "aa")), ("write", ("order", (1, 1, 1)))]
        session.tried(good)
        again = [("write", ("piece", 2, "")), ("write", ("order", (0, 1)))]
        for value in [value for value in NOT_EDITS if value not in again]:
            for index in range(4):
                for given in (list, tuple):
                    edits = given(good[:index] + [value] + good[index:])
                    self.assert_refused(BadEdit, session.tried, edits)
                    self.assertEqual(seen(session), before)
        self.assertEqual(undone(session), pairs)

    def test_what_changes_nothing_because_of_one_before(self):
        session = Session(TORN)
        self.assert_refused(BadEdit, session.tried, [AIM, FILL, FILL])
        self.assert_refused(BadEdit, session.tried, [AIM, FILL, TURN, TURN])
        # A write that is not done can be asked for again.
        self.assertEqual(session.tried([AIM, TURN, TURN]), [None, "no", "no"])
        self.assertEqual(len(session), 0)

    def test_a_refused_list_in_a_trial(self):
        session = Session(TORN)
        session.edit(AIM)
        with session.trial():
            session.edit(FILL)
            self.assert_refused(BadEdit, session.tried, [TURN, None])
            self.assertEqual(len(session), 2)
            self.assertEqual(session.undo(), (FILL, "old"))
            self.assert_refused(NothingDone, session.undo)
        self.assertEqual(len(session), 1)


class RefusedTest(Case):
    def test_no_file(self):
        for value in [*NOT_FILES, Session(TORN)]:
            self.assertIsNone(self.assert_refused(BadFile, Session, value).part)

    def test_no_edit(self):
        session = Session(FILE)
        for first in [None, ("aim", "b"), ("write", ("piece", 1, "a"))]:
            if first:
                session.edit(first)
            before, pairs = seen(session), undone(session)
            for edit in NOT_EDITS:
                self.assert_refused(BadEdit, session.edit, edit)
                self.assertEqual(seen(session), before)
            self.assertEqual(undone(session), pairs)

    def test_writes_are_those_of_the_file_as_it_is_then(self):
        session = Session(TORN)
        session.edit(FILL)
        self.assert_refused(BadEdit, session.edit, FILL)
        self.assertEqual(session.edit(("write", ("piece", 2, ""))), "old")
        self.assert_refused(BadEdit, session.edit, ("write", ("piece", 2, "")))
        self.assertEqual(session.edit(FILL), "old")
        # A write that is not done changes nothing: it can be asked for once more.
        self.assertEqual([session.edit(WRONG), session.edit(WRONG)], ["no", "no"])
        self.assert_refused(BadEdit, session.edit, ("write", ("order", (0, 1))))
        self.assert_refused(BadEdit, session.edit, ("write", ("piece", 3, "a")))

    def test_letters_and_blocks_are_those_of_the_file(self):
        two, three = Session(File("ab", ("a",), (0,))), Session(File("abc", ("a", "b"), (0,)))
        for edit in [("aim", "c"), ("write", ("piece", 0, "c")), ("write", ("order", (1,)))]:
            self.assert_refused(BadEdit, two.edit, edit)
            self.assertIn(three.edit(edit), [None, "no", "old", "new"])
        self.assertEqual((len(two), len(three)), (0, 3))

    def test_the_longest_aims(self):
        session = Session(TORN)
        session.edit(("aim", "ababab"))
        self.assert_refused(BadEdit, session.edit, ("aim", "abababa"))
        self.assertEqual(session.aim, "ababab")

    def test_in_a_trial(self):
        session = Session(TORN)
        with session.trial():
            session.edit(AIM)
            before = seen(session)
            for edit in NOT_EDITS[:20]:
                self.assert_refused(BadEdit, session.edit, edit)
                self.assertEqual(seen(session), before)
            self.assertEqual(session.undo(), (AIM, None))


class KeptTest(Case):
    def test_the_journal_is_new_each_time(self):
        session = Session(TORN)
        session.edit(AIM)
        self.assertIsNot(session.journal, session.journal)
        found = session.journal
        found.append((FILL, "old"))
        found[0] = None
        self.assertEqual(session.journal, [(AIM, None)])
        self.assertEqual(len(session), 1)
        found = session.journal
        session.edit(FILL)
        self.assertEqual(found, [(AIM, None)])
        found.clear()
        self.assertEqual(session.undo(), (FILL, "old"))
        self.assertEqual(session.undo(), (AIM, None))

    def test_a_journal_from_a_trial_or_of_a_branch(self):
        session = Session(TORN)
        with session.trial():
            session.edit(AIM)
            found = session.journal
        self.assertEqual((found, session.journal), ([(AIM, None)], []))
        branch = session.branch()
        branch.edit(AIM)
        branch.journal.clear()
        self.assertEqual((branch.journal, session.journal), ([(AIM, None)], []))

    def test_handed_in_lists(self):
        session, edits = Session(TORN), [AIM, FILL, TURN]
        found = session.tried(edits)
        self.assertEqual(edits, [AIM, FILL, TURN])
        edits.clear()
        found.clear()
        self.assertEqual(session.tried([AIM, FILL, TURN]), [None, "old", "new"])
        self.assertEqual(seen(session), seen(Session(TORN)))

    def test_the_journal_of_a_session_can_be_handed_in(self):
        session = Session(TORN)
        for edit in (AIM, FILL):
            session.edit(edit)
        edits = [edit for edit, _ in session.journal]
        self.assertEqual(Session(TORN).tried(edits), [None, "old"])

    def test_files_do_not_change(self):
        before = parts(TORN)
        session = Session(TORN)
        for edit in (AIM, FILL, TURN):
            session.edit(edit)
        self.assertEqual(parts(TORN), before)
        kept = session.current
        session.undo()
        self.assertEqual((kept.text, session.current.text), ("ba", "ab"))

    def test_sessions_of_one_file(self):
        one, other = Session(TORN), Session(TORN)
        one.edit(AIM)
        self.assertEqual((len(one), len(other), other.aim), (1, 0, None))

    def test_equality(self):
        session = Session(TORN)
        self.assertTrue(session == session)
        self.assertFalse(session != session)
        others = [TORN, Plan((), {}), Tidying((), {}), NoTidying([]), BadWrite(), [], (), "ab", *OTHER_KINDS]
        for other in others:
            self.assertIs(session == other, False)
            self.assertIs(session != other, True)
            self.assertIs(other == session, False)
            self.assertIs(other != session, True)

    def test_properties_cannot_be_set(self):
        session = Session(TORN)
        for name in ("current", "aim", "journal"):
            with self.assertRaises(AttributeError):
                setattr(session, name, None)
        self.assertEqual(seen(session), seen(Session(TORN)))

    def test_arguments_by_name(self):
        session = Session(file=TORN)
        self.assertIsNone(session.edit(edit=AIM))
        self.assertEqual(session.tried(edits=[FILL]), ["old"])


class ChanceTest(Case):
    """Sessions by chance, with branches and trials, held against sessions that are made anew after each step."""

    def test_held_against_the_plain_words(self):
        self.counts = {}
        for seed, file in enumerate(random_files(64, KINDS) * 4):
            chance = random.Random(seed)
            with self.subTest(seed=seed):
                self.go_on(chance, Session(file), Model(file), 25)
        for name in ("edit", "undo", "nothing", "branch", "trial", "error", "tried", "refused"):
            self.assertGreater(self.counts[name], 40, name)
        answers = {name for name in self.counts if name[:1] == ("answer",)}
        self.assertEqual(answers, {("answer", answer) for answer in (None, "old", "new", "no")})

    def count(self, name):
        self.counts[name] = self.counts.get(name, 0) + 1

    def go_on(self, chance, session, model, steps):
        """Do as many steps as asked with a session, and with a trial or a branch within it some more."""
        actions = [*[self.edit] * 4, self.undo, self.branch, self.trial, self.error, self.tried]
        for step in range(steps):
            chance.choice(actions)(chance, session, model, steps // 3)
            self.assertEqual(seen(session), model.seen())

    def some_edit(self, chance, file, aim):
        """Return an edit for a file."""
        kind = chance.random()
        if kind < 0.3:
            return ("aim", random_text(chance, file))
        safe = safe_writes(file, file.text if aim is None else aim)
        if kind < 0.8 and safe:
            changing = [write for write in safe if after(file, write).text != file.text]
            return ("write", chance.choice(changing or safe))
        return ("write", chance.choice(plain_writes(file)))

    def edit(self, chance, session, model, steps):
        edit = self.some_edit(chance, session.current, session.aim)
        model.edits.append(edit)
        answer = session.edit(edit)
        self.assertEqual(answer, model.seen()[2][-1][1])
        self.count("edit")
        self.count(("answer", answer))

    def undo(self, chance, session, model, steps):
        pair = model.undo()
        if pair is None:
            self.assert_refused(NothingDone, session.undo)
            self.count("nothing")
        else:
            self.assertEqual(session.undo(), pair)
            self.count("undo")

    def branch(self, chance, session, model, steps):
        branch = session.branch()
        self.go_on(chance, branch, Model(model.file, model.edits), steps)
        self.assertEqual(seen(session), model.seen())
        self.assertEqual(undone(session), model.seen()[2][::-1])
        self.count("branch")

    def trial(self, chance, session, model, steps):
        kept = list(model.edits)
        with session.trial() as inner:
            model.begun.append(len(kept))
            self.go_on(chance, inner, model, steps)
        model.begun.pop()
        model.edits = kept
        self.count("trial")

    def error(self, chance, session, model, steps):
        kept = list(model.edits)
        with self.assertRaises(Stop):
            with session.trial() as inner:
                model.begun.append(len(kept))
                self.go_on(chance, inner, model, steps)
                raise Stop
        model.begun.pop()
        model.edits = kept
        self.count("error")

    def tried(self, chance, session, model, steps):
        then, edits = Model(model.file, model.edits), []
        for _ in range(chance.randrange(4)):
            edits.append(self.some_edit(chance, then.current(), then.seen()[1]))
            then.edits.append(edits[-1])
        answers = [answer for _, answer in then.seen()[2][len(model.edits):]]
        self.assertEqual(session.tried(edits), answers)
        self.assertEqual(seen(session), model.seen())
        self.assert_refused(BadEdit, session.tried, [*edits, chance.choice([None, ("aim", "x"), ("write", ())])])
        self.count("tried")
        self.count("refused")


if __name__ == "__main__":
    unittest.main()
