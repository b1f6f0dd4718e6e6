"""Splits: the items of a pool, parted into low ones and high ones."""

from askranges.certificates import greatest_amounts
from askranges.errors import DoesNotFit, InvalidSplit
from askranges.settling import is_choice, truth_of
from askranges.sorting import is_settled_below


def fits(pool, values, low_names):
    """Return True if no low item has a greater value than a high item."""
    # In the truth all items are exact, so that all of them are settled.
    return is_known(truth_of(pool, values), low_names)


def is_known(pool, low_names):
    """Return True if it is known that no low item has a greater value than a high item."""
    lows, highs = _parts(pool, low_names)
    return all([is_settled_below(low, high) for low in lows for high in highs])


def cheapest_split(pool, values, low_names):
    """Return the least price of a set after which the split is known, and the ascending list of the names of one."""
    always, lows, highs = _asks(pool, values, low_names)
    choices = []
    for count in range(len(lows) + 1):
        # With the last of these the other ones are left out, too: it is loose with all high items that they are.
        kept = lows[:count]
        reached = [high for high in highs if not all([low.is_surely_before(high) for low in kept])]
        asked = always + lows[count:] + reached
        choices.append((sum([item.price for item in asked]), sorted([item.name for item in asked])))
    return min(choices)


def split_certificate(pool, values, low_names):
    """Return amounts on pairs of which one must be asked that show that no cheaper set suffices."""
    _, lows, highs = _asks(pool, values, low_names)
    # Each low item comes ahead of those that are loose with the same high items and others, so what it takes
    # it takes from high items that all of these share.
    return greatest_amounts(pool, [(low.name, high.name) for low in lows for high in highs
                                   if not low.is_surely_before(high)])


def _parts(pool, thing):
    """Return the lists of the low items and the high ones; raise InvalidSplit unless any object is a split."""
    if not is_choice(thing, pool.names):
        raise InvalidSplit("a split is a list or tuple of different names of items")
    return ([pool.item(name) for name in pool.names if name in thing],
            [pool.item(name) for name in pool.names if name not in thing])


def _asks(pool, values, low_names):
    """Return the items that are needed for a split, and the other open low items and open high ones.

    These low items are in ascending order of their greatest possible values.
    """
    if not fits(pool, values, low_names):
        raise DoesNotFit("some low item has a greater value than a high one")
    true_lows, true_highs = _parts(truth_of(pool, values), low_names)
    lows, highs = _parts(pool, low_names)
    always, free_lows, free_highs = [], [], []
    for item in sorted(lows, key=lambda low: low.greatest):
        if any([high.value <= item.greatest for high in true_highs]):
            always.append(item)
        else:
            free_lows.append(item)
    for item in highs:
        if any([low.value >= item.least for low in true_lows]):
            always.append(item)
        else:
            free_highs.append(item)
    return (_open_ones(always), _open_ones(free_lows), _open_ones(free_highs))


def _open_ones(items):
    """Return the open items among these."""
    return [item for item in items if not item.is_exact]
