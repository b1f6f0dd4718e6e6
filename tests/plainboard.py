"""The board of [24] and [25], told a second time: each command works on a copy of all that is kept."""

import re
from copy import deepcopy

from askranges.errors import (AskError, DuplicateName, InvalidCommand, InvalidItem, InvalidKind, InvalidName,
                              InvalidValue, NoSession, NothingToUndo, SessionDone, SessionOpen, UnknownMark,
                              UnknownName)
from tests import model

CHOICES = {"order": model.order_choice, "least": model.least_choice}
# The numbers of arguments of the commands that a batch may contain.
COMMANDS = {"create": [1], "put": [4, 5], "take": [2], "begin": [2], "answer": [2], "undo": [1], "finish": [1],
            "drop": [1], "mark": [1], "back": [1]}


def is_name(thing):
    return isinstance(thing, str) and re.fullmatch("[a-z]{1,8}", thing) is not None


def is_integer(thing):
    return isinstance(thing, int) and not isinstance(thing, bool)


class PlainBoard:

    def __init__(self):
        # Pools are dicts from names to (least, greatest, price), sessions are (kind, pool at the start, answers).
        self.kept = {"pools": {}, "sessions": {}, "spent": 0, "marks": {}}
        self.log = []

    @property
    def pools(self):
        return self.kept["pools"]

    @property
    def sessions(self):
        return self.kept["sessions"]

    def copy(self):
        other = PlainBoard()
        other.kept = deepcopy(self.kept)
        return other

    def run(self, word, *arguments):
        before = deepcopy(self.kept)
        self.log.append(word)
        try:
            result = getattr(self, word)(*arguments)
        except AskError:
            self.kept = before
            self.log.append("failed")
            raise
        self.log.append("done")
        return result

    def play(self, name):
        kind, pool, answers = self.sessions[name]
        ranges = {item: pool[item][:2] for item in sorted(pool)}
        prices = {item: pool[item][2] for item in sorted(pool)}
        return model.Play(CHOICES[kind], ranges, prices, answers)

    def pool(self, name):
        """The items of a pool, with the answers of its session."""
        if not (is_name(name) and name in self.pools):
            raise UnknownName("")
        items = dict(self.pools[name])
        if name in self.sessions:
            for item, (least, greatest) in self.play(name).ranges.items():
                items[item] = (least, greatest, items[item][2] if least < greatest else 0)
        return {item: items[item] for item in sorted(items)}

    def check_session(self, name):
        self.pool(name)
        if name not in self.sessions:
            raise NoSession("")

    def check_closed(self, name):
        if name in self.sessions:
            raise SessionOpen("")

    def create(self, name):
        if not is_name(name):
            raise InvalidName("")
        if name in self.pools:
            raise DuplicateName(name)
        self.pools[name] = {}

    def put(self, name, item, least, greatest, price=1):
        self.pool(name)
        if not (is_name(item) and is_integer(least) and is_integer(greatest) and least <= greatest
                and is_integer(price) and 1 <= price <= 999):
            raise InvalidItem("")
        self.check_closed(name)
        self.pools[name][item] = (least, greatest, price if least < greatest else 0)

    def take(self, name, item):
        if not (is_name(item) and item in self.pool(name)):
            raise UnknownName("")
        self.check_closed(name)
        del self.pools[name][item]

    def begin(self, name, kind):
        pool = self.pool(name)
        if kind not in ["order", "least"]:
            raise InvalidKind("")
        self.check_closed(name)
        self.sessions[name] = (kind, pool, [])
        return self.play(name).next_ask

    def answer(self, name, value):
        self.check_session(name)
        play = self.play(name)
        if play.next_ask is None:
            raise SessionDone("")
        least, greatest = play.ranges[play.next_ask]
        if not (is_integer(value) and least <= value <= greatest):
            raise InvalidValue(play.next_ask)
        self.sessions[name][2].append(value)
        return self.play(name).next_ask

    def undo(self, name):
        self.check_session(name)
        if not self.sessions[name][2]:
            raise NothingToUndo("")
        self.sessions[name][2].pop()

    def finish(self, name):
        self.check_session(name)
        spent = self.play(name).told()[3]
        self.pools[name] = self.pool(name)
        del self.sessions[name]
        self.kept["spent"] += spent
        return spent

    def drop(self, name):
        self.pool(name)
        del self.pools[name]
        self.sessions.pop(name, None)

    def mark(self, label):
        if not is_name(label):
            raise InvalidName("")
        if label in self.kept["marks"]:
            raise DuplicateName(label)
        self.kept["marks"][label] = deepcopy([self.pools, self.sessions, self.kept["spent"]])

    def back(self, label):
        if not (is_name(label) and label in self.kept["marks"]):
            raise UnknownMark("")
        self.kept["pools"], self.kept["sessions"], self.kept["spent"] = deepcopy(self.kept["marks"][label])

    def batch(self, commands):
        if not isinstance(commands, list):
            raise InvalidCommand("")
        results = []
        for command in commands:
            if not (isinstance(command, tuple) and command and isinstance(command[0], str)
                    and len(command) - 1 in COMMANDS.get(command[0], [])):
                raise InvalidCommand("")
            results.append(self.run(*command))
        return results

    def text(self, name):
        return "\n".join(f"{item} {least}" if least == greatest else f"{item} {least} {greatest} {price}"
                         for item, (least, greatest, price) in self.pool(name).items())

    def shown(self):
        """All that the board tells of itself, as shown tells it of a Board."""
        return ([(name, self.text(name), self.play(name).told() if name in self.sessions else None)
                 for name in sorted(self.pools)], self.kept["spent"], self.log)


def shown(board):
    """All that a Board tells of itself."""
    rows = []
    for name in board.names:
        try:
            session = board.session_of(name)
            told = (session.next_ask, session.is_done, session.asked, session.spent, session.payments, session.bound)
        except NoSession:
            told = None
        rows.append((name, board.pool_of(name).text, told))
    return (rows, board.spent, board.log)


def execute(board, word, *arguments):
    """Execute a command on a Board, where the price of put is passed by its name."""
    if word == "put" and len(arguments) == 5:
        return board.put(*arguments[:4], price=arguments[4])
    return getattr(board, word)(*arguments)


def outcome(ask, *arguments):
    """What a call returns, or the error that it raises with its attributes."""
    try:
        return ("returned", ask(*arguments))
    except AskError as error:
        return (error.__class__.__name__, vars(error))
