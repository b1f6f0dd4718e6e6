"""The errors that the package raises."""


class AskError(ValueError):
    """The base of all errors."""


class InvalidValue(AskError):
    """A value is not possible for the item with the name `which`."""

    def __init__(self, which):
        super().__init__(f"not a possible value of item {which}")
        self.which = which


class DuplicateName(AskError):
    """The name `which` is taken already."""

    def __init__(self, which):
        super().__init__(f"the name {which} occurs already")
        self.which = which


class NotSettled(AskError):
    """It is not known which of the items `first` and `second` is smaller."""

    def __init__(self, first, second):
        super().__init__(f"the items {first} and {second} are loose")
        self.first = first
        self.second = second


class ParseError(AskError):
    """A text does not fit from the line with the index `line` on."""

    def __init__(self, line):
        super().__init__(f"the line with the index {line} does not fit")
        self.line = line


class InvalidItem(AskError):
    """The arguments do not form an item."""


class InvalidPool(AskError):
    """An argument is not an item."""


class UnknownName(AskError):
    """There is nothing of this name."""


class InvalidValues(AskError):
    """The argument is not a dict of values of the kind that is required."""


class InvalidOrder(AskError):
    """The argument is not an order of the pool."""


class InvalidAsked(AskError):
    """The argument is not a set of open items of the pool."""


class InvalidSplit(AskError):
    """The argument is not a split of the pool."""


class DoesNotFit(AskError):
    """A split does not fit the values."""


class SessionDone(AskError):
    """A session that is done was given an answer."""


class NothingToUndo(AskError):
    """There is no answer that could be taken back."""


class NotDone(AskError):
    """A session that is not done was asked for its result."""


class InvalidLimit(AskError):
    """The limit is not an integer from 0 on."""


class InvalidCount(AskError):
    """The count is not an integer from 0 to the number of items."""


class InvalidName(AskError):
    """The argument is not a name."""


class SessionOpen(AskError):
    """The pool has a session."""


class InvalidKind(AskError):
    """There is no such kind of session."""


class NoSession(AskError):
    """The pool has no session."""


class UnknownMark(AskError):
    """There is no mark with this label."""


class InvalidCommand(AskError):
    """The argument is not a list of commands."""


class InvalidLine(AskError):
    """The argument is not a line of the shell."""
