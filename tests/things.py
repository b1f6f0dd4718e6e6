"""What several tests need: objects of every kind, and all small items."""

from copy import deepcopy
from random import Random

from askranges.itemtypes import Item
from askranges.pools import Pool


def nested(depth):
    """A list in a list in a list, so many levels deep."""
    thing = []
    for _ in range(depth - 1):
        thing = [thing]
    return thing


# Built from what the document calls "any object" ([2]), up to its limits of depth and size.
NOT_STRINGS = [
    None, True, False, 0, 1, -1, 5, 999, 1000, 10 ** 39, -(10 ** 39),
    (), ("a",), ("a", 0, 5), (1, (2, 3)), [], ["a"], ["a", "b"], [None], [[]], [0, 5],
    {1: "a"}, {0: {}}, {"a": 1}, {"a": "b"}, {"a": []}, {}, nested(20), [0] * 4998, {"a": {"b": [("c",)]}},
]
NOT_NAMES = NOT_STRINGS + [
    "", " ", "A", "Z", "aB", "Ab", "a1", "1", "12", "-1", "a ", " a", "a b", "a-b", "a_b", "_", "a\n", "\na", "a\t",
    "abcdefghi", "a" * 100, "x" * 5000, "None", "@", "[", "`", "{", "a.b", "abcdefgH", "abcdefg ", "a'",
]
NOT_INTEGERS = [thing for thing in NOT_NAMES if isinstance(thing, bool) or not isinstance(thing, int)] + ["a", "abc"]
NAMES = ["a", "z", "az", "self", "name", "values", "abcdefgh", "zzzzzzzz", "lambda", "aaaaaaa"]


def same(first, second):
    """True if two objects are equal, with True not taken for 1."""
    return first == second and repr(first) == repr(second)


def parts(item):
    """All that an item tells of itself."""
    return (item.name, item.least, item.greatest, item.price, item.is_exact, item.value)


def content(pool):
    """All that a pool tells of itself."""
    return (pool.names, len(pool), [parts(pool.item(name)) for name in pool.names],
            [parts(item) for item in pool.walk()], list(pool.loose_pairs()), pool.text)


def small_items(name, most=4, price=1):
    """All items with this name and price whose values are from 0 to most."""
    return [Item(name, least, greatest, price=price)
            for least in range(most + 1) for greatest in range(least, most + 1)]


def forty_items():
    """Forty items, in an order that is neither that of the names nor that of the values."""
    items = []
    for at in range(40):
        place = at * 27 % 40
        name = "abcdefgh"[place % 8] * (place // 8 + 1)
        least = at * 13 % 40 - 20
        items.append(Item(name, least, least + at % 4, price=at * 25 + 1))
    return items


def row_items(count, prices):
    """Items of which each overlaps its neighbours only; the fifth of its ten own values is in no other range."""
    names = ["abcdefgh"[at * 3 % 8] * (at // 8 + 1) for at in range(count)]
    return [Item(name, 10 * at, 10 * at + 14, price=price) for at, (name, price) in enumerate(zip(names, prices))]


def draw_items(random, count, most=8, widest=5):
    """Some items with different names, in any order, whose ranges often overlap, touch and are equal."""
    items = []
    for name in random.sample(["a", "aa", "ab", "b", "ba", "c", "order", "pool", "values", "z", "zzzzzzzz"], count):
        least = random.randint(-most // 2, most // 2)
        items.append(Item(name, least, least + random.randint(0, widest), price=random.randint(1, 9)))
    return items


def drawn_pools(seed, count, most_items, **more):
    """So many drawn pools, each beside what draws further."""
    random = Random(seed)
    for _ in range(count):
        yield random, Pool(*draw_items(random, random.randint(0, most_items), **more))


def draw_values(random, pool):
    """Values for a pool, in any order of the names, often at the ends of the ranges."""
    values = {}
    for name in random.sample(pool.names, len(pool)):
        item = pool.item(name)
        if not item.is_exact:
            values[name] = random.choice([item.least, item.greatest, random.randint(item.least, item.greatest)])
    return values


def snapshot(thing):
    """What Unchanged compares: a copy, or all that a pool tells of itself."""
    return content(thing) if isinstance(thing, Pool) else deepcopy(thing)


class Unchanged:
    """Within this block, an object stays as it was."""

    def __init__(self, test, *things):
        self.test = test
        self.things = things
        self.before = [snapshot(thing) for thing in things]

    def __enter__(self):
        return self

    def __exit__(self, kind, value, trace):
        if kind is None:
            self.test.assertTrue(same([snapshot(thing) for thing in self.things], self.before))
