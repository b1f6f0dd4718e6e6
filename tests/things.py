"""What several tests need: objects of every kind, and all small items."""

from copy import deepcopy
from itertools import product
from random import Random

from askranges.itemtypes import Item
from askranges.pools import Pool
from askranges.sessions import Session
from tests import model


def nested(depth):
    """A list in a list in a list, so many levels deep."""
    thing = []
    for _ in range(depth - 1):
        thing = [thing]
    return thing


# Built from what the document calls "any object" ([2]), up to its limits of depth and size.
NOT_STRINGS = [
    None, True, False, 0, 1, -1, 5, 999, 1000, 10 ** 39, -(10 ** 39),
    (), ("a",), ("a", 0, 5), (1, (2, 3)), [], ["a"], ["a", "b"], [None], [[]], [0, 5],
    {1: "a"}, {0: {}}, {"a": 1}, {"a": "b"}, {"a": []}, {}, nested(20), [0] * 4998, {"a": {"b": [("c",)]}},
]
NOT_NAMES = NOT_STRINGS + [
    "", " ", "A", "Z", "aB", "Ab", "a1", "1", "12", "-1", "a ", " a", "a b", "a-b", "a_b", "_", "a\n", "\na", "a\t",
    "abcdefghi", "a" * 100, "x" * 5000, "None", "@", "[", "`", "{", "a.b", "abcdefgH", "abcdefg ", "a'",
]
NOT_INTEGERS = [thing for thing in NOT_NAMES if isinstance(thing, bool) or not isinstance(thing, int)] + ["a", "abc"]
NAMES = ["a", "z", "az", "self", "name", "values", "abcdefgh", "zzzzzzzz", "lambda", "aaaaaaa"]


def same(first, second):
    """True if two objects are equal, with True not taken for 1."""
    return first == second and repr(first) == repr(second)


def parts(item):
    """All that an item tells of itself."""
    return (item.name, item.least, item.greatest, item.price, item.is_exact, item.value)


def content(pool):
    """All that a pool tells of itself."""
    return (pool.names, len(pool), [parts(pool.item(name)) for name in pool.names],
            [parts(item) for item in pool.walk()], list(pool.loose_pairs()), pool.text)


def small_items(name, most=4, price=1):
    """All items with this name and price whose values are from 0 to most."""
    return [Item(name, least, greatest, price=price)
            for least in range(most + 1) for greatest in range(least, most + 1)]


def forty_items():
    """Forty items, in an order that is neither that of the names nor that of the values."""
    items = []
    for at in range(40):
        place = at * 27 % 40
        name = "abcdefgh"[place % 8] * (place // 8 + 1)
        least = at * 13 % 40 - 20
        items.append(Item(name, least, least + at % 4, price=at * 25 + 1))
    return items


def row_items(count, prices):
    """Items of which each overlaps its neighbours only; the fifth of its ten own values is in no other range."""
    names = ["abcdefgh"[at * 3 % 8] * (at // 8 + 1) for at in range(count)]
    return [Item(name, 10 * at, 10 * at + 14, price=price) for at, (name, price) in enumerate(zip(names, prices))]


def draw_items(random, count, most=8, widest=5):
    """Some items with different names, in any order, whose ranges often overlap, touch and are equal."""
    items = []
    for name in random.sample(["a", "aa", "ab", "b", "ba", "c", "order", "pool", "values", "z", "zzzzzzzz"], count):
        least = random.randint(-most // 2, most // 2)
        items.append(Item(name, least, least + random.randint(0, widest), price=random.randint(1, 9)))
    return items


def drawn_pools(seed, count, most_items, **more):
    """So many drawn pools, each beside what draws further."""
    random = Random(seed)
    for _ in range(count):
        yield random, Pool(*draw_items(random, random.randint(0, most_items), **more))


def draw_values(random, pool):
    """Values for a pool, in any order of the names, often at the ends of the ranges."""
    values = {}
    for name in random.sample(pool.names, len(pool)):
        item = pool.item(name)
        if not item.is_exact:
            values[name] = random.choice([item.least, item.greatest, random.randint(item.least, item.greatest)])
    return values


def drawn_values(seed, count, most_items, **more):
    """So many drawn pools with values for them."""
    for random, pool in drawn_pools(seed, count, most_items, **more):
        yield pool, draw_values(random, pool)


def small_pools(step):
    """Each so many-th pool of three small items with different prices, with all values for it."""
    drawn = list(product(small_items("c", 3, 3), small_items("a", 2, 2), small_items("b", 3, 4)))
    for items in drawn[::step]:
        ranges = model.ranges_of(Pool(*items))
        for values in model.all_values(ranges, model.open_of(ranges)):
            yield Pool(*items), values


def wide_items(count):
    """Items that nearly all overlap, one half with low values and the other half with high ones."""
    items = []
    for at in range(count):
        name = "abcdefgh"[at * 3 % 8] * (at // 8 + 1)
        price = at * 37 % 50 + 1
        if at % 2 == 0:
            items.append(Item(name, -100 - at * 7 % 40, 60 + at * 11 % 40, price=price))
        else:
            items.append(Item(name, -60 - at * 13 % 40, 100 + at * 9 % 40, price=price))
    return items


def wrong_values(pool, values):
    """Objects that are not values for a pool, made from no dict, other names and impossible values."""
    things = [thing for thing in NOT_NAMES + NAMES if not isinstance(thing, dict)]
    things += [list(values), tuple(values), list(values.items())]
    # A pool without open items has the values {}.
    things += [thing for thing in NOT_STRINGS if isinstance(thing, dict) and sorted(map(str, thing)) != sorted(values)]
    for name in list(values)[:6]:
        things.append({other: values[other] for other in values if other != name})
        things.append({0 if other == name else other: values[other] for other in values})
        least, greatest = pool.item(name).least, pool.item(name).greatest
        for value in (None, True, False, str(values[name]), [values[name]], (), {}, 10 ** 39, least - 1, greatest + 1):
            things.append({**values, name: value})
    for key in ["A", "", "zzzzzzzq", 0, True, 10 ** 39] + [name for name in pool.names if name not in values]:
        things.append({**values, key: 3})
        things.append({key: 3, **values})
    return things


def refuse(test, kind, ask, *args):
    """Raise this error and no other one, and leave the arguments as they are."""
    with test.subTest(ask=getattr(ask, "__name__", ""), args=repr(args)[:200]):
        with Unchanged(test, *args):
            with test.assertRaises(kind) as caught:
                ask(*args)
            test.assertIs(caught.exception.__class__, kind)
    return caught.exception


def state(session):
    """All that a session tells of itself."""
    return (content(session.pool), session.next_ask, session.is_done, session.asked, session.spent, session.payments,
            session.bound)


def snapshot(thing):
    """What Unchanged compares: a copy, or all that a pool or a session tells of itself."""
    if isinstance(thing, Pool):
        return content(thing)
    return state(thing) if isinstance(thing, Session) else deepcopy(thing)


class Unchanged:
    """Within this block, an object stays as it was."""

    def __init__(self, test, *things):
        self.test = test
        self.things = things
        self.before = [snapshot(thing) for thing in things]

    def __enter__(self):
        return self

    def __exit__(self, kind, value, trace):
        if kind is None:
            self.test.assertTrue(same([snapshot(thing) for thing in self.things], self.before))
