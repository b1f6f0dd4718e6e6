"""Cheapest sets: the least price at which the order becomes known."""

from askranges.settling import needed


def paths(pool, values):
    """Return the paths of open items that are not needed and overlap their neighbours."""
    always = needed(pool, values)
    free = [item for item in pool.walk() if not item.is_exact and item.name not in always]
    found = []
    for at, item in enumerate(free):
        # Only neighbours can overlap: a third item between two that overlap would make one of the three needed.
        if at > 0 and free[at - 1].is_loose_with(item):
            found[-1].append(item.name)
        else:
            found.append([item.name])
    return found


def cheapest(pool, values):
    """Return the least price of a settling set, and the ascending list of the names of one."""
    asked = needed(pool, values)
    for path in paths(pool, values):
        asked = asked + _cheapest_on(pool, path)
    return (sum([pool.item(name).price for name in asked]), sorted(asked))


def _cheapest_on(pool, path):
    """Return names of a path that contain one of any two neighbours, at the least price."""
    # The price and the names of the best choice so far that asks the last item, and of the best one that does not.
    with_last, without_last = (0, []), (0, [])
    for name in path:
        price, names = min(with_last, without_last)
        without_last = with_last
        with_last = (price + pool.item(name).price, names + [name])
    return min(with_last, without_last)[1]
