"""The errors of the package. Each one is a PatchError, and so a ValueError."""


class PatchError(ValueError):
    """What all errors of this package have in common."""


class BadFile(PatchError):
    """A file is none, or one of its parts is not allowed; `part` is the name of this part, or None."""

    def __init__(self, part):
        super().__init__(f"not a file, or a part of it is not allowed: {part}")
        self.part = part


class BadWrite(PatchError):
    """A write is not one of the file that changes something."""


class BadGoal(PatchError):
    """A text is not one for the file."""


class BadWrites(PatchError):
    """Writes are no list or tuple (`index` is None), or the one at `index` is not allowed there."""

    def __init__(self, index):
        super().__init__(f"not a list or tuple of writes, or the one at this index is not allowed: {index}")
        self.index = index


class NoChange(PatchError):
    """There is no change of the file to the text."""


class TooLarge(PatchError):
    """A search leads to more states than it may."""


class BadTexts(PatchError):
    """Texts are no list or tuple of one to four (`index` is None), or the one at `index` is not allowed there."""

    def __init__(self, index):
        super().__init__(f"not a list or tuple of one to four texts, or the one at this index is wrong: {index}")
        self.index = index


class BadLayout(PatchError):
    """A layout is not one of the file."""


class BadEdit(PatchError):
    """An edit is not one of the session."""


class NothingDone(PatchError):
    """There is no edit that can be undone."""


class BadText(PatchError):
    """Lines cannot be read; `row` is the index of the first one that is not allowed."""

    def __init__(self, row):
        super().__init__(f"not lines that can be read, from this row on: {row}")
        self.row = row
