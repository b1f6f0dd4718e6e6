"""The least item: whether it is known, and what must be asked to know it."""

from askranges.settling import truth_of
from askranges.sorting import is_settled_below


def sure_least(pool):
    """Return the smallest name of a sure least item, or None if there is none."""
    items = [pool.item(name) for name in pool.names]
    for item in items:
        if all([is_settled_below(item, other) for other in items if other.name != item.name]):
            return item.name
    return None


def candidates(pool, values):
    """Yield the tuples (price, name, asked) after which an item is a sure least one, in ascending order."""
    truth = truth_of(pool, values)
    yield from sorted([found for item in pool.walk() for found in _candidates_of(pool, truth, item)])


def cheapest_least(pool, values):
    """Return the first candidate, or None for an empty pool."""
    for found in candidates(pool, values):
        return found
    return None


def _candidates_of(pool, truth, item):
    """Return the candidates for an item: the one that knows its value, and the one that does not ask it."""
    value = truth.item(item.name).value
    others = [other.value for other in truth.walk() if other.name != item.name]
    found = []
    if all([other >= value for other in others]):
        own = [] if item.is_exact else [item.name]
        found.append(_candidate(pool, item, own + _reaching_down(pool, item, value)))
    if not item.is_exact and all([other > item.greatest for other in others]):
        found.append(_candidate(pool, item, _reaching_down(pool, item, item.greatest)))
    return found


def _reaching_down(pool, item, value):
    """Return the names of all other open items that have a possible value up to this one."""
    return [other.name for other in pool.walk()
            if other.name != item.name and not other.is_exact and other.least <= value]


def _candidate(pool, item, asked):
    """Return the candidate for an item that asks these items."""
    return (sum([pool.item(name).price for name in asked]), item.name, sorted(asked))
