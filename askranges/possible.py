"""Possible orders: those along which some possible values never descend."""

from askranges.errors import InvalidOrder


def assignment(pool, order):
    """Return the least values that never descend along an order, or None if there are none."""
    _check_order(pool, order)
    found = {}
    lowest = None
    for name in order:
        item = pool.item(name)
        lowest = item.least if lowest is None else max(lowest, item.least)
        if lowest > item.greatest:
            return None
        found[name] = lowest
    return {name: found[name] for name in pool.names}


def obstacle(pool, order):
    """Return the first pair of names that stand in the wrong order, or None if there is none."""
    _check_order(pool, order)
    for at, later in enumerate(order):
        for earlier in order[:at]:
            if pool.item(later).is_surely_before(pool.item(earlier)):
                return (earlier, later)
    return None


def may_precede(pool, first, second):
    """Return True if some possible order has the first one of two different items before the second one."""
    one, two = pool.item(first), pool.item(second)
    return first != second and not two.is_surely_before(one)


def _check_order(pool, thing):
    """Raise InvalidOrder unless any object is an order of the pool."""
    if not isinstance(thing, (list, tuple)) or not all([isinstance(name, str) for name in thing]):
        raise InvalidOrder("an order is a list or tuple of names")
    if sorted(thing) != pool.names:
        raise InvalidOrder("an order contains each name of the pool exactly once")
