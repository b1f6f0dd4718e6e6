"""Certificates: amounts on pairs of items that show that no settling set has a smaller price."""

from askranges.cheapest import paths
from askranges.settling import needed
from askranges.wholes import is_whole


def certificate(pool, values):
    """Return a certificate whose total is the least price of a settling set, in ascending order."""
    # From the start of a path on: the first item has one pair only, so what that pair takes costs no other pair more.
    return greatest_amounts(pool, _free_pairs(pool, values))


def check_certificate(pool, values, thing, bar):
    """Return True if any object is a certificate whose total is at least the bar."""
    pairs = _free_pairs(pool, values)
    total = sum([pool.item(name).price for name in needed(pool, values)])
    if not isinstance(thing, list) or not all([_is_amount(part, pairs) for part in thing]):
        return False
    if len({(first, second) for first, second, _ in thing}) != len(thing):
        return False
    for name in pool.names:
        if sum([amount for first, second, amount in thing if name in (first, second)]) > pool.item(name).price:
            return False
    return total + sum([amount for _, _, amount in thing]) >= bar


def greatest_amounts(pool, pairs):
    """Return the ascending list of tuples (first, second, amount): pair by pair, the most that both prices leave."""
    left = {name: pool.item(name).price for name in pool.names}
    found = []
    for first, second in pairs:
        amount = min(left[first], left[second])
        if amount > 0:
            left[first] -= amount
            left[second] -= amount
            found.append((first, second, amount))
    return sorted(found)


def _free_pairs(pool, values):
    """Return the pairs of open items that are not needed and overlap, path by path."""
    return [(min(pair), max(pair)) for path in paths(pool, values) for pair in zip(path, path[1:])]


def _is_amount(thing, pairs):
    """Return True if any object is a tuple of the two names of one of these pairs and an integer from 1 on."""
    if not isinstance(thing, tuple) or len(thing) != 3:
        return False
    first, second, amount = thing
    return (first, second) in pairs and is_whole(amount) and amount >= 1
