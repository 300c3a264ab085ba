"""Sessions: a file that is changed edit by edit towards an aim, with a journal, undoing, branches and trials."""

from safepatch.errors import BadEdit, NothingDone
from safepatch.files import check_file
from safepatch.states import is_text
from safepatch.writes import after, is_safe, is_write

MOST_TRIED = 20


class Session:
    """A file that is changed edit by edit, with an aim and a journal of the edits."""

    def __init__(self, file):
        check_file(file)
        self._scope = Scope([(file, None, None)], None)

    @property
    def current(self):
        """The file."""
        return self._scope.moments[-1][0]

    @property
    def aim(self):
        """The text that may be read beside that of the file, or None."""
        return self._scope.moments[-1][1]

    @property
    def journal(self):
        """The list of the pairs of an edit and its answer."""
        return [pair for _, _, pair in self._scope.moments[1:]]

    def __len__(self):
        return len(self.journal)

    def edit(self, edit):
        """Make an edit, and return its answer."""
        file, aim = self.current, self.aim
        check_edit(file, edit)
        file, aim, answer = edited(file, aim, edit)
        self._scope.moments.append((file, aim, (edit, answer)))
        return answer

    def undo(self):
        """Take back the last edit, and return the pair of it and its answer."""
        scope = self._scope
        if len(scope.moments) == scope.fixed():
            raise NothingDone("no edit, or none in the trial")
        return scope.moments.pop()[2]

    def branch(self):
        """Return an independent Session that has the same file, aim and journal."""
        twin = Session(self.current)
        # Outside of all trials: also the edits that were made before a trial can be undone.
        twin._scope = Scope(self._scope.moments, None)
        return twin

    def trial(self):
        """Return a Trial, for a with-block that gives this session."""
        return Trial(self)

    def tried(self, edits):
        """Make some edits in a trial, and return the list of their answers."""
        if not isinstance(edits, (list, tuple)) or len(edits) > MOST_TRIED:
            raise BadEdit("not a list or tuple of edits, or too many")
        with self.trial():
            return [self.edit(edit) for edit in edits]


class Trial:
    """A with-block at whose end a session has all that it had at the beginning."""

    def __init__(self, session):
        self.session = session

    def __enter__(self):
        session = self.session
        session._scope = Scope(session._scope.moments, session._scope)
        return session

    def __exit__(self, kind, value, trace):
        session = self.session
        session._scope = session._scope.outer


class Scope:
    """What a session has in a trial, or outside of all trials: its moments, and the scope around the trial or None.

    A moment is a triple of the file and the aim that there are behind an edit, and of the pair of this edit and its
    answer. The first one has no such pair: it is that of the beginning of the session.
    """

    def __init__(self, moments, outer):
        self.moments = list(moments)
        self.outer = outer

    def fixed(self):
        """Return how many moments remain, however much is undone here."""
        return 1 if self.outer is None else len(self.outer.moments)


def check_edit(file, edit):
    """Raise BadEdit if an edit argument is not an edit of a session with this file."""
    if not is_edit(file, edit):
        raise BadEdit("not an edit of the session")


def is_edit(file, value):
    """Return whether a value is an edit of a session with this file."""
    if not isinstance(value, tuple) or len(value) != 2 or not isinstance(value[0], str):
        return False
    if value[0] == "aim":
        return is_text(file.letters, value[1])
    return value[0] == "write" and is_write(file, value[1])


def edited(file, aim, edit):
    """Return the file and the aim behind an edit, and its answer."""
    kind, value = edit
    text = file.text
    if kind == "aim":
        return (file, None if value == text else value, None)
    if not is_safe(file, value, text if aim is None else aim):
        return (file, aim, "no")
    reached = after(file, value)
    if reached.text == text:
        return (reached, aim, "old")
    return (reached, None, "new")
