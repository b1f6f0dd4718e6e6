"""Settling sets: the sets of open items after asking which the order is known."""

from askranges.errors import InvalidAsked, InvalidValue, InvalidValues, UnknownName


def needed(pool, values):
    """Return the ascending list of the needed items."""
    truth = truth_of(pool, values)
    return [name for name in open_names(pool) if _witness_in(truth, pool.item(name)) is not None]


def witness(pool, values, name):
    """Return the smallest name of an item for whose sake an open item is needed, or None."""
    truth = truth_of(pool, values)
    item = pool.item(name)
    if item.is_exact:
        raise UnknownName("the pool has no open item of this name")
    return _witness_in(truth, item)


def settles(pool, values, asked):
    """Return True if the order is known after asking these items."""
    return first_loose(pool, values, asked) is None


def first_loose(pool, values, asked):
    """Return the first loose pair after asking these items, or None if there is none."""
    truth = truth_of(pool, values)
    if not is_choice(asked, open_names(pool)):
        raise InvalidAsked("the items to ask are a list or tuple of different names of open items")
    answered = [truth.item(name) for name in asked]
    known = pool.with_items(*answered)
    for pair in known.loose_pairs():
        return pair
    return None


def open_names(pool):
    """Return the ascending list of the names of the open items."""
    return [name for name in pool.names if not pool.item(name).is_exact]


def is_choice(thing, names):
    """Return True if any object is a list or tuple of different ones of these names."""
    if not isinstance(thing, (list, tuple)) or not all([name in names for name in thing]):
        return False
    return len(set(thing)) == len(thing)


def truth_of(pool, values):
    """Return the pool in which all open items have been asked; raise InvalidValues for any other object."""
    names = open_names(pool)
    if not isinstance(values, dict) or not is_choice(list(values), names) or len(values) != len(names):
        raise InvalidValues("values are a dict whose keys are exactly the names of the open items")
    try:
        return pool.told(values)
    except InvalidValue:
        raise InvalidValues("some value is not possible for its item") from None


def _witness_in(truth, item):
    """Return the smallest name of another item whose value is possible for an open one, or None."""
    for name in truth.names:
        # An open and an exact item are loose exactly if the value of the one is possible for the other one.
        if name != item.name and item.is_loose_with(truth.item(name)):
            return name
    return None
