"""The errors of the package, one class for each kind of failure."""


class RunError(ValueError):
    """The base class of all errors of the package."""


class BadScheme(RunError):
    """A scheme is wrong; `part` names its wrong part, and is None if the argument is no scheme at all."""

    def __init__(self, part=None):
        super().__init__("this is not a scheme")
        self.part = part


class BadWorlds(RunError):
    """Worlds are wrong; `index` is that of the first wrong one, and None if they are wrong as a whole."""

    def __init__(self, index=None):
        super().__init__("these are not worlds of the scheme")
        self.index = index


class BadKinds(RunError):
    """This is not a set of kinds that can happen."""


class TooLarge(RunError):
    """A question leads to too many pairs of states."""


class BadNotes(RunError):
    """These are not notes of a run."""


class TooMany(RunError):
    """A run has too many single notes."""


class BadChoice(RunError):
    """This is not a choice of single notes."""


class BadMarks(RunError):
    """This is not a spacing of marks, or not a room for them."""


class BadStep(RunError):
    """This is not a step of the run."""


class BadCell(RunError):
    """This is not a cell."""


class BadNumber(RunError):
    """This is not a number as it is asked for here."""


class NothingDone(RunError):
    """There is no step to undo."""


class BadText(RunError):
    """A text cannot be read; `row` is the index of the line at which this shows."""

    def __init__(self, row=None):
        super().__init__("this text cannot be read")
        self.row = row


class BadDigits(RunError):
    """Digits cannot be read; `offset` is the index of the wrong group, and None if they are wrong as a whole."""

    def __init__(self, offset=None):
        super().__init__("these digits cannot be read")
        self.offset = offset
