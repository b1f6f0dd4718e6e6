"""Items: values that are known to lie in a range."""

from askranges.errors import InvalidItem, InvalidValue
from askranges.wholes import is_whole

LONGEST_NAME = 8


class Item:
    """An open item, or an exact one if its least and greatest value are equal."""

    MOST = 999

    def __init__(self, name, least, greatest, *, price=1):
        if not Item.is_name(name):
            raise InvalidItem("a name is one to eight letters from a to z")
        if not is_whole(least) or not is_whole(greatest):
            raise InvalidItem("the ends of a range are integers")
        if least > greatest:
            raise InvalidItem("the least value is above the greatest one")
        if not is_whole(price) or not 1 <= price <= Item.MOST:
            raise InvalidItem("a price is an integer from 1 to 999")
        self._name = name
        self._least = least
        self._greatest = greatest
        self._price = 0 if least == greatest else price

    @classmethod
    def exact(cls, name, value):
        """Return the exact item with this value."""
        return cls(name, value, value)

    @staticmethod
    def is_name(thing):
        """Return True if any object is a name."""
        if not isinstance(thing, str) or not 1 <= len(thing) <= LONGEST_NAME:
            return False
        return all(["a" <= sign <= "z" for sign in thing])

    @property
    def name(self):
        """The name."""
        return self._name

    @property
    def least(self):
        """The least possible value."""
        return self._least

    @property
    def greatest(self):
        """The greatest possible value."""
        return self._greatest

    @property
    def price(self):
        """The price of asking, 0 for an exact item."""
        return self._price

    @property
    def is_exact(self):
        """True if the value is known."""
        return self._least == self._greatest

    @property
    def value(self):
        """The value of an exact item, None for an open one."""
        return self._least if self.is_exact else None

    def told(self, value):
        """Return the exact item that asking makes of this one."""
        if not is_whole(value) or not self._least <= value <= self._greatest:
            raise InvalidValue(self._name)
        return Item.exact(self._name, value)

    def is_surely_before(self, other):
        """Return True if each possible value is less than each one of the other item."""
        return self._greatest < other.least

    def is_loose_with(self, other):
        """Return True if it is not known which of both values is smaller."""
        if self.is_exact and other.is_exact:
            return False
        return not self.is_surely_before(other) and not other.is_surely_before(self)

    def __eq__(self, other):
        return (isinstance(other, Item) and self._name == other._name and self._least == other._least
                and self._greatest == other._greatest and self._price == other._price)
