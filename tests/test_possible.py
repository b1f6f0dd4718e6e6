"""Tests of askranges.possible: [11]."""

import unittest
from itertools import permutations, product
from random import Random

from askranges.errors import InvalidOrder, NotSettled, UnknownName
from askranges.itemtypes import Item
from askranges.pools import Pool
from askranges.possible import assignment, may_precede, obstacle
from askranges.sorting import sure_order
from tests import model
from tests.things import (NAMES, NOT_NAMES, Unchanged, draw_values, drawn_pools, forty_items, row_items, same,
                          small_items)

POOL = Pool(Item("a", 0, 5), Item("b", 2, 9), Item.exact("c", 10))


def small_pools():
    for items in product(small_items("c", 2), small_items("a", 2), small_items("b", 2)):
        yield Pool(*items)


def lowest_by(ranges, order):
    """What assignment returns, told without a walk along the order."""
    highest_least = {name: max(ranges[other][0] for other in order[:at + 1]) for at, name in enumerate(order)}
    if any(highest_least[name] > ranges[name][1] for name in order):
        return None
    return {name: highest_least[name] for name in sorted(order)}


def first_obstacle_of(ranges, order):
    for second in range(len(order)):
        for first in range(second):
            if model.is_before(ranges, order[second], order[first]):
                return (order[first], order[second])
    return None


class Example(unittest.TestCase):

    def test_example_of_11(self):
        pool = Pool(Item('a', 0, 5), Item('b', 2, 9), Item.exact('c', 10))
        self.assertEqual(assignment(pool, ['b', 'a', 'c']), {'a': 2, 'b': 2, 'c': 10})
        self.assertEqual(obstacle(pool, ['a', 'c', 'b']), ('c', 'b'))


class Orders(unittest.TestCase):

    def check(self, pool, order):
        """Hold both functions against ranges, for an order as a list and as a tuple."""
        ranges = model.ranges_of(pool)
        values, pair = lowest_by(ranges, order), first_obstacle_of(ranges, order)
        self.assertIs(values is None, pair is not None)
        for thing in (list(order), tuple(order)):
            with Unchanged(self, pool, thing):
                self.assertTrue(same(assignment(pool, thing), values))
                self.assertTrue(same(obstacle(pool, thing), pair))

    def test_no_items(self):
        for order in ([], ()):
            self.assertTrue(same(assignment(Pool(), order), {}))
            self.assertIsNone(obstacle(Pool(), order))

    def test_one_item(self):
        for item in (Item("b", -3, 3), Item.exact("b", -3)):
            self.assertEqual(assignment(Pool(item), ["b"]), {"b": -3})
            self.assertIsNone(obstacle(Pool(item), ("b",)))

    def test_arguments_by_name(self):
        self.assertEqual(assignment(pool=POOL, order=["b", "a", "c"]), {"a": 2, "b": 2, "c": 10})
        self.assertEqual(obstacle(pool=POOL, order=("c", "a", "b")), ("c", "a"))

    def test_by_hand(self):
        rows = [
            ("abc", {"a": 0, "b": 2, "c": 10}, None), ("bac", {"a": 2, "b": 2, "c": 10}, None),
            ("acb", None, ("c", "b")), ("bca", None, ("c", "a")), ("cab", None, ("c", "a")), ("cba", None, ("c", "b")),
        ]
        for order, values, pair in rows:
            self.assertTrue(same(assignment(POOL, list(order)), values))
            self.assertTrue(same(obstacle(POOL, list(order)), pair))

    def test_equal_values_may_stand_in_any_order(self):
        pool = Pool(Item("a", 0, 5), Item("b", 5, 9), *[Item.exact(name, 5) for name in "cd"])
        for order in permutations("abcd"):
            low = 0 if order[0] == "a" else 5
            self.assertTrue(same(assignment(pool, order), {"a": low, "b": 5, "c": 5, "d": 5}))
            self.assertIsNone(obstacle(pool, order))

    def test_obstacle_goes_by_the_place_of_the_second_then_of_the_first(self):
        pool = Pool(Item("a", 0, 1), Item("b", 2, 3), Item("c", 4, 5), Item("d", 6, 7))
        rows = {"dcba": ("d", "c"), "cdab": ("c", "a"), "adcb": ("d", "c"), "cdba": ("c", "b"), "acdb": ("c", "b"),
                "bcda": ("b", "a"), "cbda": ("c", "b"), "abdc": ("d", "c"), "dabc": ("d", "a"), "bdac": ("b", "a")}
        for order, pair in rows.items():
            self.assertEqual(obstacle(pool, list(order)), pair)

    def test_negative_and_large_values(self):
        far = 999999999999
        pool = Pool(Item("a", -far, far), Item("b", -far, -far + 1), Item("c", far - 1, far))
        self.assertEqual(assignment(pool, ["b", "a", "c"]), {"a": -far, "b": -far, "c": far - 1})
        self.assertEqual(assignment(pool, ["b", "c", "a"]), {"a": far - 1, "b": -far, "c": far - 1})
        self.assertEqual(obstacle(pool, ["a", "c", "b"]), ("c", "b"))
        self.assertIsNone(assignment(pool, ["a", "c", "b"]))

    def test_all_orders_of_small_pools(self):
        for pool in small_pools():
            for order in permutations(pool.names):
                self.check(pool, order)

    def test_all_orders_of_drawn_pools(self):
        for _, pool in drawn_pools(1, 40, 5):
            for order in permutations(pool.names):
                self.check(pool, order)

    def test_values_that_never_descend(self):
        """assignment against all values: there are some along the order, and none are smaller for any item."""
        for _, pool in drawn_pools(2, 40, 4):
            ranges = model.ranges_of(pool)
            for order in permutations(pool.names):
                rising = model.rising_values(ranges, order)
                found = assignment(pool, list(order))
                if rising:
                    self.assertIn(found, rising)
                    self.assertEqual(found, {name: min(values[name] for values in rising) for name in ranges})
                    self.assertEqual(list(found), sorted(found))
                else:
                    self.assertIsNone(found)

    def test_the_possible_orders_are_those_without_obstacle(self):
        for pool in small_pools():
            orders = model.possible_orders(model.ranges_of(pool))
            for order in permutations(pool.names):
                self.assertIs(obstacle(pool, order) is None, order in orders)
                self.assertIs(assignment(pool, order) is not None, order in orders)

    def test_sure_order_is_the_only_possible_one(self):
        seen = 0
        for random, pool in drawn_pools(3, 200, 4):
            values = draw_values(random, pool)
            told = pool.told({name: values[name] for name in values if random.random() < 0.8})
            try:
                order = sure_order(told)
            except NotSettled:
                continue
            ranges = model.ranges_of(told)
            exact = [least for least, greatest in ranges.values() if least == greatest]
            orders = model.possible_orders(ranges)
            self.assertIn(tuple(order), orders)
            if len(set(exact)) == len(exact):
                self.assertEqual(orders, [tuple(order)])
                seen += len(told) > 2
        self.assertGreater(seen, 20)

    def test_forty_items(self):
        random = Random(4)
        for items in (forty_items(), row_items(40, [1] * 40)):
            pool = Pool(*items)
            walked = [item.name for item in pool.walk()]
            self.check(pool, walked)
            self.assertEqual(assignment(pool, walked), {name: pool.item(name).least for name in pool.names})
            self.check(pool, walked[::-1])
            self.check(pool, pool.names)
            for _ in range(40):
                self.check(pool, random.sample(walked, 40))
                mixed = list(walked)
                for _ in range(3):
                    at = random.randrange(39)
                    mixed[at], mixed[at + 1] = mixed[at + 1], mixed[at]
                self.check(pool, mixed)
        same_range = Pool(*[Item(item.name, 0, 3) for item in forty_items()])
        self.check(same_range, random.sample(same_range.names, 40))

    def test_new_dict(self):
        assignment(POOL, ["a", "b", "c"])["a"] = 7
        self.assertEqual(assignment(POOL, ["a", "b", "c"]), {"a": 0, "b": 2, "c": 10})


class InvalidOrders(unittest.TestCase):

    def refuse(self, pool, thing):
        with self.subTest(thing=repr(thing)[:80]):
            for ask in (assignment, obstacle):
                with self.assertRaises(InvalidOrder) as caught:
                    ask(pool, thing)
                self.assertIs(caught.exception.__class__, InvalidOrder)

    def test_other_objects(self):
        for pool in (POOL, Pool(Item("x", 0, 5), Item("y", 0, 5)), Pool(*forty_items())):
            for thing in NOT_NAMES + NAMES:
                with Unchanged(self, pool, thing):
                    self.refuse(pool, thing)
        for thing in NOT_NAMES + NAMES:
            if thing not in ([], ()):
                self.refuse(Pool(), thing)
        self.refuse(Pool(), {})
        self.refuse(Pool(), "")

    def test_other_collections_of_the_names(self):
        for thing in ("abc", {"a": 0, "b": 1, "c": 2}, {"a": 0, "b": 2, "c": 10}, POOL, ("abc",), ["a b c"],
                      [["a", "b", "c"]], (("a", "b", "c"),), [("a", "b", "c")]):
            self.refuse(POOL, thing)

    def test_an_invalid_part_at_each_place(self):
        for part in NOT_NAMES + ["d", "aa", "abc"]:
            for at in range(3):
                changed = ["a", "b", "c"]
                changed[at] = part
                added = ["a", "b", "c"]
                added.insert(at, part)
                for things in (changed, added, ["a", "b", "c", part]):
                    for thing in (things, tuple(things)):
                        with Unchanged(self, POOL, thing):
                            self.refuse(POOL, thing)

    def test_a_name_twice(self):
        for things in (["a", "a", "b", "c"], ["a", "b", "c", "a"], ["a", "b", "b"], ["c", "c", "c"], ["a", "b", "a"],
                       ["c", "b", "c", "a"]):
            self.refuse(POOL, things)
            self.refuse(POOL, tuple(things))

    def test_a_name_left_out(self):
        for things in ([], ["a"], ["a", "b"], ["b", "c"], ["c", "a"]):
            self.refuse(POOL, things)
            self.refuse(POOL, tuple(things))

    def test_forty_items(self):
        names = Pool(*forty_items()).names
        for at in (0, 20, 39):
            self.refuse(Pool(*forty_items()), names[:at] + names[at + 1:])
            self.refuse(Pool(*forty_items()), names[:at] + [names[at - 1]] + names[at + 1:])
            self.refuse(Pool(*forty_items()), names[:at] + [None] + names[at + 1:])
            self.refuse(Pool(*forty_items()), names[:at] + [names[at]] + names[at:])


class MayPrecede(unittest.TestCase):

    def check(self, pool):
        ranges = model.ranges_of(pool)
        for first, second in product(ranges, repeat=2):
            with Unchanged(self, pool):
                self.assertIs(may_precede(pool, first, second),
                              first != second and not model.is_before(ranges, second, first))

    def test_by_hand(self):
        rows = {"ab": True, "ba": True, "ac": True, "bc": True, "ca": False, "cb": False,
                "aa": False, "bb": False, "cc": False}
        for (first, second), answer in rows.items():
            self.assertIs(may_precede(POOL, first, second), answer)
        self.assertIs(may_precede(pool=POOL, first="a", second="c"), True)
        self.assertIs(may_precede(POOL, second="a", first="c"), False)

    def test_ranges_that_touch(self):
        for item in (Item("b", 5, 9), Item.exact("b", 5)):
            self.assertIs(may_precede(Pool(Item("a", 0, 5), item), "b", "a"), True)
        for item in (Item("b", 6, 9), Item.exact("b", 6)):
            self.assertIs(may_precede(Pool(Item("a", 0, 5), item), "b", "a"), False)

    def test_equal_exact_items(self):
        pool = Pool(Item.exact("a", 3), Item.exact("b", 3))
        self.assertIs(may_precede(pool, "a", "b"), True)
        self.assertIs(may_precede(pool, "b", "a"), True)

    def test_pools(self):
        for pool in small_pools():
            self.check(pool)
        for random, pool in drawn_pools(5, 40, 8):
            self.check(pool)
            self.check(pool.told(draw_values(random, pool)))

    def test_forty_items(self):
        pool = Pool(*forty_items())
        ranges = model.ranges_of(pool)
        for first, second in product(ranges, repeat=2):
            self.assertIs(may_precede(pool, first, second),
                          first != second and not model.is_before(ranges, second, first))

    def test_some_possible_order_has_the_first_one_before_the_second_one(self):
        pools = list(small_pools()) + [pool for _, pool in drawn_pools(6, 40, 4)]
        for pool in pools:
            orders = model.possible_orders(model.ranges_of(pool))
            for first, second in product(pool.names, repeat=2):
                self.assertIs(may_precede(pool, first, second),
                              any(order.index(first) < order.index(second) for order in orders))

    def test_unknown_names(self):
        for pool in (Pool(), POOL):
            for thing in NOT_NAMES + ["d", "aa", "abc"]:
                for first, second in [(thing, "a"), ("a", thing), (thing, "c"), ("c", thing), (thing, thing),
                                      (thing, None), ([], thing)]:
                    with self.subTest(first=repr(first)[:80], second=repr(second)[:80]):
                        with Unchanged(self, pool, first, second):
                            with self.assertRaises(UnknownName) as caught:
                                may_precede(pool, first, second)
                            self.assertIs(caught.exception.__class__, UnknownName)


if __name__ == "__main__":
    unittest.main()
