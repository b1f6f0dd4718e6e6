"""What the document says of pools, told a second time from ranges alone: the tests hold the program against it.

A pool is here a dict from names to pairs (least, greatest), in ascending order of the names.
"""

from itertools import combinations, permutations, product


def ranges_of(pool):
    return {name: (pool.item(name).least, pool.item(name).greatest) for name in pool.names}


def prices_of(pool):
    return {name: pool.item(name).price for name in pool.names}


def open_of(ranges):
    return [name for name, (least, greatest) in ranges.items() if least < greatest]


def possible(ranges, name):
    return range(ranges[name][0], ranges[name][1] + 1)


def is_before(ranges, first, second):
    return ranges[first][1] < ranges[second][0]


def overlap(ranges, first, second):
    return max(ranges[first][0], ranges[second][0]) <= min(ranges[first][1], ranges[second][1])


def loose_of(ranges):
    """The pairs of names of loose items, by [4]."""
    return [(first, second) for first, second in combinations(ranges, 2)
            if overlap(ranges, first, second) and (ranges[first][0] < ranges[first][1]
                                                   or ranges[second][0] < ranges[second][1])]


def after(ranges, values, asked):
    """The pool after asking some items, by [5]."""
    return {name: (values[name],) * 2 if name in asked else ends for name, ends in ranges.items()}


def first_loose_of(ranges, values, asked):
    return next(iter(loose_of(after(ranges, values, asked))), None)


def sure_order_of(ranges):
    """The order of [10], or the first loose pair."""
    loose = loose_of(ranges)
    return loose[0] if loose else sorted(ranges, key=lambda name: (*ranges[name], name))


def ranks_of(ranges, name):
    before = sum(is_before(ranges, other, name) for other in ranges)
    return (before, len(ranges) - 1 - sum(is_before(ranges, name, other) for other in ranges))


def subsets(names):
    return [chosen for count in range(len(names) + 1) for chosen in combinations(names, count)]


def all_values(ranges, names):
    """All dicts from these names to possible values."""
    for drawn in product(*[possible(ranges, name) for name in names]):
        yield dict(zip(names, drawn))


def truth_of(ranges, values):
    return {name: values.get(name, ends[0]) for name, ends in ranges.items()}


def witnesses_of(ranges, values, name):
    """The ascending list of the other items whose value in the truth is possible for an item."""
    return [other for other, value in truth_of(ranges, values).items()
            if other != name and value in possible(ranges, name)]


def needed_of(ranges, values):
    return [name for name in open_of(ranges) if witnesses_of(ranges, values, name)]


def free_of(ranges, values):
    """The open items that are not needed."""
    return [name for name in open_of(ranges) if not witnesses_of(ranges, values, name)]


def settling_sets(ranges, values):
    return [asked for asked in subsets(open_of(ranges)) if first_loose_of(ranges, values, asked) is None]


def least_price_of(ranges, prices, values):
    """The least price of a settling set, over all sets."""
    return min(sum(prices[name] for name in asked) for asked in settling_sets(ranges, values))


def never_descends(values, order):
    return all(values[first] <= values[second] for first, second in zip(order, order[1:]))


def rising_values(ranges, order):
    """All values for all names that never descend along an order."""
    return [values for values in all_values(ranges, list(ranges)) if never_descends(values, order)]


def possible_orders(ranges):
    """All possible orders, by [11]."""
    drawn = list(all_values(ranges, list(ranges)))
    return [order for order in permutations(ranges) if any(never_descends(values, order) for values in drawn)]
