"""The smallest items: so many items of which none has a greater value than any of the other ones."""

from askranges.errors import InvalidCount
from askranges.sessions import Session
from askranges.settling import truth_of
from askranges.splitting import cheapest_split
from askranges.wholes import is_whole


def smallest(pool, values, count):
    """Return the ascending list of the names of the first items by value in the truth and name."""
    truth = truth_of(pool, values)
    _check_count(pool, count)
    # The items of the truth are exact, so that walk goes by value and name.
    return sorted([item.name for item in truth.walk()][:count])


def cheapest_smallest(pool, values, count):
    """Return the least price of a set after which it is known that these items are low, and the names of one."""
    return cheapest_split(pool, values, smallest(pool, values, count))


class SmallestSession(Session):
    """A session that finds a known split with so many low items."""

    def __init__(self, pool, count):
        _check_count(pool, count)
        self._count = count
        super().__init__(pool)

    def result(self):
        """Return the ascending list of the names of the low items."""
        self._check_done()
        return sorted([item.name for item in _by_least(self.pool)[:self._count]])

    def copy(self):
        """Return an independent session in the same state."""
        return self._give_state(SmallestSession(self.pool, self._count))

    def _choose(self, pool):
        """Return the names of the highest of the low items and the next one, as far as they are open."""
        items = _by_least(pool)
        if self._count in (0, len(items)):
            return []
        next_one = items[self._count]
        highest = min(items[:self._count], key=lambda item: (-item.greatest, item.is_exact, item.name))
        if highest.is_surely_before(next_one):
            return []
        # If both are exact, there is nothing to choose from either.
        return [item.name for item in (highest, next_one) if not item.is_exact]


def _by_least(pool):
    """Return the items in ascending order of (least, whether the item is exact, name)."""
    return sorted(list(pool.walk()), key=lambda item: (item.least, item.is_exact, item.name))


def _check_count(pool, thing):
    """Raise InvalidCount unless any object is an integer from 0 to the number of items."""
    if not is_whole(thing) or not 0 <= thing <= len(pool):
        raise InvalidCount("a count is an integer from 0 to the number of items")
