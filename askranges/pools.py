"""Pools: sets of items with different names, and their texts."""

from askranges.errors import DuplicateName, InvalidItem, InvalidPool, InvalidValues, ParseError, UnknownName
from askranges.itemtypes import Item
from askranges.wholes import whole_of


class Pool:
    """A set of items with different names."""

    def __init__(self, *items):
        _check_items(items)
        found = {}
        for item in items:
            if item.name in found:
                raise DuplicateName(item.name)
            found[item.name] = item
        self._by_name = {name: found[name] for name in sorted(found)}

    @classmethod
    def read(cls, text):
        """Return the pool with this text."""
        if not isinstance(text, str):
            raise ParseError(0)
        # Splitting the empty string would give one line, but it has none.
        lines = text.split("\n") if text != "" else []
        items = []
        for at, line in enumerate(lines):
            item = _item_of(line)
            if item is None or (at > 0 and item.name <= items[-1].name):
                raise ParseError(at)
            items.append(item)
        return cls(*items)

    @property
    def names(self):
        """The ascending list of the names."""
        return list(self._by_name)

    @property
    def text(self):
        """The lines of the items, in ascending order of the names."""
        return "\n".join([_line_of(item) for item in self._by_name.values()])

    def item(self, name):
        """Return the item of this name."""
        if not Item.is_name(name) or name not in self._by_name:
            raise UnknownName("the pool has no item of this name")
        return self._by_name[name]

    def walk(self):
        """Yield the items in ascending order of (least, greatest, name)."""
        yield from sorted(self._by_name.values(), key=lambda item: (item.least, item.greatest, item.name))

    def loose_pairs(self):
        """Yield the pairs of names of loose items, in ascending order."""
        names = self.names
        for at, first in enumerate(names):
            for second in names[at + 1:]:
                if self._by_name[first].is_loose_with(self._by_name[second]):
                    yield (first, second)

    def with_items(self, *items):
        """Return the pool in which these items are added or replace others."""
        _check_items(items)
        found = dict(self._by_name)
        for item in items:
            found[item.name] = item
        changed = list(found.values())
        return Pool(*changed)

    def without(self, name):
        """Return the pool without the item of this name."""
        taken = self.item(name)
        kept = [item for item in self._by_name.values() if item.name != taken.name]
        return Pool(*kept)

    def told(self, values):
        """Return the pool after asking the items in a dict from names to values."""
        if not isinstance(values, dict) or not all([isinstance(name, str) for name in values]):
            raise InvalidValues("values are a dict with strings as keys")
        for name in values:
            if name not in self._by_name:
                raise UnknownName("the pool has no item of this name")
        # The order of the names decides which of several refused values is named.
        answered = [self._by_name[name].told(values[name]) for name in sorted(values)]
        return self.with_items(*answered)

    def told_by(self, **values):
        """Return the pool after asking the items in the keyword arguments."""
        return self.told(values)

    def __len__(self):
        return len(self._by_name)

    def __eq__(self, other):
        return isinstance(other, Pool) and self._by_name == other._by_name


def _check_items(things):
    """Raise InvalidPool unless all of these objects are items."""
    for thing in things:
        if not isinstance(thing, Item):
            raise InvalidPool("a pool consists of items")


def _line_of(item):
    """Return the line of an item in the text of a pool."""
    if item.is_exact:
        return f"{item.name} {item.value}"
    return f"{item.name} {item.least} {item.greatest} {item.price}"


def _item_of(line):
    """Return the item that has this line, or None if there is none."""
    words = line.split(" ")
    numbers = [whole_of(word) for word in words[1:]]
    if len(numbers) not in (1, 3):
        return None
    # A word that writes no integer gives None, of which no item is made.
    try:
        if len(numbers) == 1:
            return Item.exact(words[0], numbers[0])
        item = Item(words[0], numbers[0], numbers[1], price=numbers[2])
    except InvalidItem:
        return None
    # Equal ends make an exact item, whose line has no price.
    return None if item.is_exact else item
