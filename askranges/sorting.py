"""Sure order: the order of the items, and the places that each one can have."""

from askranges.errors import NotSettled


def sure_order(pool):
    """Return the list of the names in the order of the items, if it is known."""
    for first, second in pool.loose_pairs():
        raise NotSettled(first, second)
    return [item.name for item in pool.walk()]


def ranks(pool, name):
    """Return the first and the last place, counted from 0, that an item can have."""
    item = pool.item(name)
    before = [other.name for other in pool.walk() if other.is_surely_before(item)]
    after = [other.name for other in pool.walk() if item.is_surely_before(other)]
    return (len(before), len(pool) - 1 - len(after))


def rank_pairs(pool):
    """Yield the pairs of each name and its ranks, in ascending order of the names."""
    for name in pool.names:
        yield (name, ranks(pool, name))


def is_settled_below(item, other):
    """Return True if two items are settled and the value of the first one is not greater."""
    if item.is_exact and other.is_exact:
        return item.value <= other.value
    return item.is_surely_before(other)
