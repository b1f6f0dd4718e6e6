"""The shell: a board that is used by lines of words."""

from askranges.board import Board
from askranges.errors import InvalidLine
from askranges.minimum import sure_least
from askranges.wholes import whole_of

FORMS = (
    "create NAME", "put NAME ITEM LEAST GREATEST PRICE", "put NAME ITEM VALUE", "take NAME ITEM", "undo NAME",
    "drop NAME", "mark LABEL", "back LABEL", "begin NAME KIND", "answer NAME VALUE", "finish NAME", "show NAME",
    "order NAME", "least NAME", "spent", "names",
)
INTEGERS = ("LEAST", "GREATEST", "PRICE", "VALUE")
NOTHING = "-"


class Shell:
    """A board that is used by lines."""

    def __init__(self):
        self._board = Board()

    def run(self, line):
        """Execute a line and return what it says."""
        word, *arguments = _words_of(line)
        result = self._execute(word, arguments)
        if result is None:
            return "done" if word in ("begin", "answer") else "ok"
        return str(result)

    def _execute(self, word, arguments):
        """Execute what this first word of a line stands for, and return the result."""
        board = self._board
        actions = {
            "create": board.create, "put": self._put, "take": board.take, "undo": board.undo, "drop": board.drop,
            "mark": board.mark, "back": board.back, "begin": board.begin, "answer": board.answer,
            "finish": board.finish, "show": self._show_pool, "order": self._show_order, "least": self._show_least,
            "spent": self._show_spent, "names": self._show_names,
        }
        action = actions[word]
        return action(*arguments)

    def _put(self, name, item, least, greatest=None, price=1):
        """Add an item to a pool; without a greatest value, the least one is that of an exact item."""
        self._board.put(name, item, least, least if greatest is None else greatest, price=price)

    def _show_pool(self, name):
        """Return the lines of a pool."""
        return self._board.pool_of(name).text.replace("\n", " / ") or NOTHING

    def _show_order(self, name):
        """Return the sure order of a pool, or its first loose pair."""
        pool = self._board.pool_of(name)
        for first, second in pool.loose_pairs():
            return f"? {first} {second}"
        return " ".join([item.name for item in pool.walk()]) or NOTHING

    def _show_least(self, name):
        """Return the sure least item of a pool."""
        return sure_least(self._board.pool_of(name)) or NOTHING

    def _show_spent(self):
        """Return the amount that the finished sessions spent."""
        return self._board.spent

    def _show_names(self):
        """Return the names of the pools."""
        return " ".join(self._board.names) or NOTHING


def _words_of(line):
    """Return the words of a line, with integers for those that write one; raise InvalidLine for any other object."""
    if not isinstance(line, str):
        raise InvalidLine("a line is a string")
    words = line.split(" ")
    for form in FORMS:
        places = form.split(" ")
        if "" not in words and len(places) == len(words) and places[0] == words[0]:
            return [_thing_of(word, place) for word, place in zip(words, places)]
    raise InvalidLine("there is no line of such words")


def _thing_of(word, place):
    """Return what a word means at its place of a form."""
    if place not in INTEGERS:
        return word
    number = whole_of(word)
    if number is None:
        raise InvalidLine("a word writes no integer")
    return number
