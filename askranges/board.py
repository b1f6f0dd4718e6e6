"""The board: pools by name, with sessions, marks and a log of the commands."""

from askranges.errors import AskError, InvalidCommand, UnknownMark
from askranges.itemtypes import Item
from askranges.shelf import Shelf, check_free

# How many arguments each command takes that a batch may contain.
COUNTS = {
    "create": (1,), "put": (4, 5), "take": (2,), "begin": (2,), "answer": (2,), "undo": (1,), "finish": (1,),
    "drop": (1,), "mark": (1,), "back": (1,),
}


class Board:
    """Pools by name, and at most one session for each."""

    def __init__(self):
        self._shelf = Shelf()
        # A shelf for each label, which is never changed.
        self._marks = {}
        self._log = []

    @property
    def names(self):
        """The ascending list of the names of the pools."""
        return self._shelf.names

    @property
    def spent(self):
        """The sum of what all sessions spent that were finished."""
        return self._shelf.spent

    @property
    def log(self):
        """The list of the commands and of how they ended."""
        return list(self._log)

    def pool_of(self, name):
        """Return a pool, with the answers of its session."""
        return self._shelf.pool_of(name)

    def session_of(self, name):
        """Return a copy of the session of a pool."""
        return self._shelf.session_of(name)

    def copy(self):
        """Return an independent board with the same pools, sessions, marks and amount, and an empty log."""
        other = Board()
        other._shelf = self._shelf.copy()
        other._marks = dict(self._marks)
        return other

    def create(self, name):
        """Add an empty pool."""
        return self._run("create", name)

    def put(self, name, item, least, greatest, *, price=1):
        """Add an item to a pool, or replace it."""
        return self._run("put", name, item, least, greatest, price)

    def take(self, name, item):
        """Remove an item from a pool."""
        return self._run("take", name, item)

    def begin(self, name, kind):
        """Start a session of the kind "order" or "least", and return the name of the item to ask."""
        return self._run("begin", name, kind)

    def answer(self, name, value):
        """Answer the session of a pool, and return the name of the next item to ask."""
        return self._run("answer", name, value)

    def undo(self, name):
        """Take back the last answer of the session of a pool."""
        return self._run("undo", name)

    def finish(self, name):
        """End the session of a pool, which keeps the answers, and return what the session spent."""
        return self._run("finish", name)

    def drop(self, name):
        """Remove a pool and its session."""
        return self._run("drop", name)

    def mark(self, label):
        """Record all pools, sessions and the amount that was spent."""
        return self._run("mark", label)

    def back(self, label):
        """Restore what a mark recorded."""
        return self._run("back", label)

    def batch(self, commands):
        """Execute a list of commands, or none of them if one fails, and return the list of their results."""
        return self._run("batch", commands)

    def _run(self, word, *arguments):
        """Execute a command, with entries in the log ahead of it and behind it."""
        self._log.append(word)
        try:
            result = self._execute(word, arguments)
        except AskError:
            self._log.append("failed")
            raise
        self._log.append("done")
        return result

    def _execute(self, word, arguments):
        """Execute a command without the log, and return its result."""
        shelf = self._shelf
        actions = {
            "create": shelf.create, "put": shelf.put, "take": shelf.take, "begin": shelf.begin,
            "answer": shelf.answer, "undo": shelf.undo, "finish": shelf.finish, "drop": shelf.drop,
            "mark": self._mark, "back": self._back, "batch": self._batch,
        }
        action = actions[word]
        return action(*arguments)

    def _mark(self, label):
        """Record what is on the shelf."""
        check_free(label, self._marks)
        self._marks[label] = self._shelf.copy()

    def _back(self, label):
        """Restore what was on the shelf."""
        if not Item.is_name(label) or label not in self._marks:
            raise UnknownMark("there is no mark of this label")
        self._shelf = self._marks[label].copy()

    def _batch(self, commands):
        """Execute commands, or restore all but the log if one of them fails."""
        if not isinstance(commands, list):
            raise InvalidCommand("a batch is a list of commands")
        shelf, marks = self._shelf.copy(), dict(self._marks)
        results = []
        try:
            for command in commands:
                _check_command(command)
                results.append(self._run(*command))
        except AskError:
            self._shelf, self._marks = shelf, marks
            raise
        return results


def _check_command(thing):
    """Raise InvalidCommand unless any object is a tuple of the name of a command and its arguments."""
    if not isinstance(thing, tuple) or len(thing) == 0 or not isinstance(thing[0], str):
        raise InvalidCommand("a command is a tuple that begins with its name")
    if len(thing) - 1 not in COUNTS.get(thing[0], ()):
        raise InvalidCommand("there is no command of this name with so many arguments")
