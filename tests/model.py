"""What the document says of pools, told a second time from ranges alone: the tests hold the program against it.

A pool is here a dict from names to pairs (least, greatest), in ascending order of the names.
"""

from itertools import combinations, permutations, product


def ranges_of(pool):
    return {name: (pool.item(name).least, pool.item(name).greatest) for name in pool.names}


def prices_of(pool):
    return {name: pool.item(name).price for name in pool.names}


def open_of(ranges):
    return [name for name, (least, greatest) in ranges.items() if least < greatest]


def possible(ranges, name):
    return range(ranges[name][0], ranges[name][1] + 1)


def is_before(ranges, first, second):
    return ranges[first][1] < ranges[second][0]


def overlap(ranges, first, second):
    return max(ranges[first][0], ranges[second][0]) <= min(ranges[first][1], ranges[second][1])


def loose_of(ranges):
    """The pairs of names of loose items, by [4]."""
    return [(first, second) for first, second in combinations(ranges, 2)
            if overlap(ranges, first, second) and (ranges[first][0] < ranges[first][1]
                                                   or ranges[second][0] < ranges[second][1])]


def after(ranges, values, asked):
    """The pool after asking some items, by [5]."""
    return {name: (values[name],) * 2 if name in asked else ends for name, ends in ranges.items()}


def first_loose_of(ranges, values, asked):
    return next(iter(loose_of(after(ranges, values, asked))), None)


def sure_order_of(ranges):
    """The order of [10], or the first loose pair."""
    loose = loose_of(ranges)
    return loose[0] if loose else sorted(ranges, key=lambda name: (*ranges[name], name))


def ranks_of(ranges, name):
    before = sum(is_before(ranges, other, name) for other in ranges)
    return (before, len(ranges) - 1 - sum(is_before(ranges, name, other) for other in ranges))


def subsets(names):
    return [chosen for count in range(len(names) + 1) for chosen in combinations(names, count)]


def all_values(ranges, names):
    """All dicts from these names to possible values."""
    for drawn in product(*[possible(ranges, name) for name in names]):
        yield dict(zip(names, drawn))


def truth_of(ranges, values):
    return {name: values.get(name, ends[0]) for name, ends in ranges.items()}


def witnesses_of(ranges, values, name):
    """The ascending list of the other items whose value in the truth is possible for an item."""
    return [other for other, value in truth_of(ranges, values).items()
            if other != name and value in possible(ranges, name)]


def needed_of(ranges, values):
    return [name for name in open_of(ranges) if witnesses_of(ranges, values, name)]


def free_of(ranges, values):
    """The open items that are not needed."""
    return [name for name in open_of(ranges) if not witnesses_of(ranges, values, name)]


def settling_sets(ranges, values):
    return [asked for asked in subsets(open_of(ranges)) if first_loose_of(ranges, values, asked) is None]


def least_price_of(ranges, prices, values):
    """The least price of a settling set, over all sets."""
    return min(sum(prices[name] for name in asked) for asked in settling_sets(ranges, values))


def never_descends(values, order):
    return all(values[first] <= values[second] for first, second in zip(order, order[1:]))


def rising_values(ranges, order):
    """All values for all names that never descend along an order."""
    return [values for values in all_values(ranges, list(ranges)) if never_descends(values, order)]


def possible_orders(ranges):
    """All possible orders, by [11]."""
    drawn = list(all_values(ranges, list(ranges)))
    return [order for order in permutations(ranges) if any(never_descends(values, order) for values in drawn)]


def is_settled_below(ranges, low, high):
    """[17], [19]: surely before the other one, or exact like it and not greater."""
    exact = ranges[low][0] == ranges[low][1] and ranges[high][0] == ranges[high][1]
    return is_before(ranges, low, high) or exact and ranges[low][0] <= ranges[high][0]


def least_price_after(ranges, prices, values, is_reached):
    """The least price of a set of open items after which the pool is as it should be, over all sets."""
    return min(sum(prices[name] for name in asked) for asked in subsets(open_of(ranges))
               if is_reached(after(ranges, values, asked)))


def sure_least_of(ranges):
    """The smallest name of a sure least item, by [17], or None."""
    return min([name for name in ranges
                if all(is_settled_below(ranges, name, other) for other in ranges if other != name)], default=None)


def has_least(ranges):
    """True if it is known which item is the least one; no item is needed for an empty pool."""
    return not ranges or sure_least_of(ranges) is not None


def candidates_of(ranges, prices, values):
    """All candidates, by the words of [18]."""
    truth = truth_of(ranges, values)
    is_open = open_of(ranges)
    found = []
    for name in ranges:
        others = [other for other in ranges if other != name]
        if not any(truth[other] < truth[name] for other in others):
            asked = [other for other in others if other in is_open and ranges[other][0] <= truth[name]]
            asked += [name] if name in is_open else []
            found.append((sum(prices[each] for each in asked), name, sorted(asked)))
        if name in is_open and not any(truth[other] <= ranges[name][1] for other in others):
            asked = [other for other in others if other in is_open and ranges[other][0] <= ranges[name][1]]
            found.append((sum(prices[each] for each in asked), name, sorted(asked)))
    return sorted(found)


def high_of(ranges, lows):
    return [name for name in ranges if name not in lows]


def does_fit(ranges, values, lows):
    truth = truth_of(ranges, values)
    return not any(truth[low] > truth[high] for low in lows for high in high_of(ranges, lows))


def knows_split(ranges, lows):
    return all(is_settled_below(ranges, low, high) for low in lows for high in high_of(ranges, lows))


def needed_for_split(ranges, values, lows):
    """The items that are needed for a split, by [19]."""
    truth = truth_of(ranges, values)
    highs = high_of(ranges, lows)
    return [name for name in open_of(ranges)
            if (name in lows and any(truth[high] <= ranges[name][1] for high in highs))
            or (name in highs and any(truth[low] >= ranges[name][0] for low in lows))]


def split_pairs(ranges, values, lows):
    """The pairs of which one must be asked, by [19]."""
    free = [name for name in open_of(ranges) if name not in needed_for_split(ranges, values, lows)]
    return [(low, high) for low in lows for high in high_of(ranges, lows)
            if low in free and high in free and not is_before(ranges, low, high)]


def order_choice(ranges):
    """What an order session asks, by [22]: nothing, the name of a forced ask, or a pair of names."""
    loose = loose_of(ranges)
    if not loose:
        return []
    exact = [name for name in ranges if name not in open_of(ranges)]
    around = [name for name in open_of(ranges) if any(ranges[other][0] in possible(ranges, name) for other in exact)]
    return [min(around)] if around else list(loose[0])


def least_choice(ranges):
    """What a least session asks, by [22]."""
    if has_least(ranges):
        return []
    first, second, *_ = sorted(ranges, key=lambda name: (*ranges[name], name))
    is_open = open_of(ranges)
    if first not in is_open:
        return [min(name for name in is_open if ranges[first][0] in possible(ranges, name))]
    return sorted([first, second]) if second in is_open else [first]


def smallest_of(ranges, values, count):
    """The names of the count smallest items, by [27]."""
    truth = truth_of(ranges, values)
    return sorted(sorted(truth, key=lambda name: (truth[name], name))[:count])


def knows_some_split(ranges, count):
    """True if some split with so many low items is known."""
    return any(knows_split(ranges, lows) for lows in combinations(ranges, count))


def low_ones(ranges, count):
    """F of [28], in ascending order, and the items behind it."""
    is_open = open_of(ranges)
    names = sorted(ranges, key=lambda name: (ranges[name][0], name not in is_open, name))
    return names[:count], names[count:]


def smallest_choice(count):
    """What a smallest session asks, by [28]."""
    def choose(ranges):
        lows, others = low_ones(ranges, count)
        if not lows or not others:
            return []
        is_open = open_of(ranges)
        top = max(ranges[name][1] for name in lows)
        at_top = sorted(name for name in lows if ranges[name][1] == top)
        highest = ([name for name in at_top if name in is_open] or at_top)[0]
        both = [highest, others[0]]
        if is_before(ranges, *both) or not any(name in is_open for name in both):
            return []
        return sorted(name for name in both if name in is_open)
    return choose


class Play:
    """A session that was answered from the start on, told from the words of [21] and [22]."""

    def __init__(self, choose, ranges, prices, answers=()):
        self.choose = choose
        self.ranges = dict(ranges)
        self.prices = prices
        self.left = dict(prices)
        self.asked = []
        self.payments = []
        self.forced = 0
        self.ask_next()
        for value in answers:
            self.answer(value)

    def ask_next(self):
        names = self.choose(self.ranges)
        self.is_forced = len(names) == 1
        self.next_ask = names[0] if names else None
        if len(names) == 2:
            amount = min(self.left[name] for name in names)
            for name in names:
                self.left[name] -= amount
            self.payments += [(*names, amount)] if amount else []
            self.next_ask = min(name for name in names if self.left[name] == 0)

    def answer(self, value):
        self.forced += self.left[self.next_ask] if self.is_forced else 0
        self.asked.append(self.next_ask)
        self.ranges[self.next_ask] = (value, value)
        self.ask_next()

    def told(self):
        """All properties but the pool."""
        return (self.next_ask, self.next_ask is None, self.asked, sum(self.prices[name] for name in self.asked),
                self.payments, sum(amount for _, _, amount in self.payments) + self.forced)
