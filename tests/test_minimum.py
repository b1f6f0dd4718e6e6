"""Tests of askranges.minimum: [12], [17] and [18]."""

import unittest
from itertools import product
from random import Random

from askranges.errors import InvalidValues
from askranges.itemtypes import Item
from askranges.minimum import candidates, cheapest_least, sure_least
from askranges.pools import Pool
from tests import model
from tests.things import (NAMES, Unchanged, draw_values, drawn_values, forty_items, refuse, row_items, same,
                          small_items, small_pools, wide_items, wrong_values)

POOL = Pool(Item("a", 0, 5, price=3), Item("b", 2, 9), Item("c", 7, 12))
VALUES = {"a": 1, "b": 7, "c": 10}


class Example(unittest.TestCase):

    def test_example_of_18(self):
        pool = Pool(Item('a', 0, 5, price=3), Item('b', 2, 9), Item('c', 7, 12))
        self.assertIs(sure_least(pool) is None, True)
        self.assertEqual(list(candidates(pool, {'a': 1, 'b': 7, 'c': 10})), [(1, 'a', ['b']), (3, 'a', ['a'])])
        self.assertEqual(cheapest_least(pool, {'a': 1, 'b': 4, 'c': 10}), (3, 'a', ['a']))


class SureLeast(unittest.TestCase):

    def check(self, pool):
        with self.subTest(text=pool.text):
            with Unchanged(self, pool):
                self.assertTrue(same(sure_least(pool), model.sure_least_of(model.ranges_of(pool))))

    def test_no_items(self):
        self.assertIsNone(sure_least(Pool()))

    def test_one_item(self):
        self.assertEqual(sure_least(Pool(Item("b", -3, 3))), "b")
        self.assertEqual(sure_least(Pool(Item.exact("b", -3))), "b")

    def test_argument_by_name(self):
        self.assertEqual(sure_least(pool=Pool(Item("b", -3, 3))), "b")

    def test_by_hand(self):
        self.assertIsNone(sure_least(POOL))
        self.assertEqual(sure_least(POOL.told_by(a=1)), "a")
        self.assertIsNone(sure_least(POOL.told_by(a=2)))
        self.assertIsNone(sure_least(POOL.told_by(b=5)))
        self.assertEqual(sure_least(POOL.told_by(b=6)), "a")
        self.assertIsNone(sure_least(POOL.told_by(b=2)))
        self.assertEqual(sure_least(POOL.told_by(b=2, a=3)), "b")
        self.assertEqual(sure_least(POOL.told_by(b=2, a=2)), "a")

    def test_ranges_that_touch(self):
        self.assertIsNone(sure_least(Pool(Item("b", 0, 4), Item("a", 4, 9))))
        self.assertEqual(sure_least(Pool(Item("b", 0, 4), Item("a", 5, 9))), "b")
        self.assertIsNone(sure_least(Pool(Item.exact("b", 4), Item("a", 4, 9))))
        self.assertEqual(sure_least(Pool(Item.exact("b", 3), Item("a", 4, 9))), "b")
        self.assertIsNone(sure_least(Pool(Item.exact("b", 9), Item("a", 4, 9))))

    def test_equal_least_exact_items(self):
        items = [Item.exact(name, 3) for name in ("zz", "b", "ab", "z")]
        self.assertEqual(sure_least(Pool(*items)), "ab")
        self.assertEqual(sure_least(Pool(*items, Item.exact("a", 4), Item("aa", 4, 9))), "ab")
        self.assertEqual(sure_least(Pool(*items, Item.exact("zzz", 2))), "zzz")
        self.assertIsNone(sure_least(Pool(*items, Item("a", 3, 9))))
        self.assertIsNone(sure_least(Pool(*items, Item("a", 1, 3))))
        self.assertEqual(sure_least(Pool(*items, Item("zzz", 1, 2))), "zzz")

    def test_loose_items_above_do_not_matter(self):
        self.assertEqual(sure_least(Pool(Item("c", 0, 1), Item("b", 2, 9), Item("a", 2, 9))), "c")
        self.assertEqual(sure_least(Pool(Item.exact("c", 0), Item("b", 1, 9), Item.exact("a", 5))), "c")

    def test_all_pools_of_two_and_three_small_items(self):
        for first, second in product(small_items("b", 3), small_items("a", 3)):
            self.check(Pool(first, second))
        for items in product(small_items("c", 2), small_items("a", 2), small_items("b", 2)):
            self.check(Pool(*items))

    def test_before_and_after_asking(self):
        for pool, values in drawn_values(1, 60, 5):
            for asked in model.subsets(list(values)):
                self.check(pool.told({name: values[name] for name in asked}))

    def test_all_open_items_asked(self):
        for pool, values in drawn_values(2, 200, 11):
            truth = model.truth_of(model.ranges_of(pool), values)
            expected = min(truth, key=lambda name: (truth[name], name), default=None)
            self.assertEqual(sure_least(pool.told(values)), expected)

    def test_forty_items(self):
        for items in (forty_items(), row_items(40, [1] * 40), wide_items(40)):
            pool = Pool(*items)
            self.check(pool)
            for part in (0.3, 0.7, 0.95, 1):
                random = Random(3)
                values = draw_values(random, pool)
                self.check(pool.told({name: value for name, value in values.items() if random.random() <= part}))
        apart = Pool(*[Item(item.name, 2 * item.least, 2 * item.least + 10) for item in row_items(40, [1] * 40)])
        self.assertEqual(sure_least(apart), row_items(40, [1] * 40)[0].name)


class Candidates(unittest.TestCase):

    def check(self, pool, values):
        """Hold candidates and cheapest_least against the words of [18]."""
        ranges, prices = model.ranges_of(pool), model.prices_of(pool)
        expected = model.candidates_of(ranges, prices, values)
        with Unchanged(self, pool, values):
            found = list(candidates(pool, values))
            first = cheapest_least(pool, values)
        self.assertTrue(same(found, expected))
        self.assertTrue(same(first, expected[0] if expected else None))
        self.assertIs(first is None, len(pool) == 0)
        for price, name, asked in found:
            known = model.after(ranges, values, asked)
            self.assertTrue(all(model.is_settled_below(known, name, other) for other in known if other != name))
            self.assertIsNotNone(sure_least(pool.told({each: values[each] for each in asked})))
            self.assertEqual(price, sum(prices[each] for each in asked))

    def check_over_all_sets(self, pool, values):
        self.check(pool, values)
        if len(pool) > 0:
            ranges, prices = model.ranges_of(pool), model.prices_of(pool)
            least_price = model.least_price_after(ranges, prices, values, model.has_least)
            self.assertEqual(cheapest_least(pool, values)[0], least_price)

    def test_no_items(self):
        self.assertEqual(list(candidates(Pool(), {})), [])
        self.assertIsNone(cheapest_least(Pool(), {}))

    def test_one_item(self):
        pool = Pool(Item("b", -3, 3, price=7))
        self.assertTrue(same(list(candidates(pool, {"b": 0})), [(0, "b", []), (7, "b", ["b"])]))
        self.assertTrue(same(cheapest_least(pool, {"b": 0}), (0, "b", [])))
        self.assertTrue(same(list(candidates(Pool(Item.exact("b", 3)), {})), [(0, "b", [])]))
        self.assertTrue(same(cheapest_least(Pool(Item.exact("b", 3)), {}), (0, "b", [])))

    def test_arguments_by_name(self):
        self.assertEqual(list(candidates(values=VALUES, pool=POOL)), [(1, "a", ["b"]), (3, "a", ["a"])])
        self.assertEqual(cheapest_least(values=VALUES, pool=POOL), (1, "a", ["b"]))

    def test_by_hand(self):
        self.assertEqual(list(candidates(POOL, {"a": 4, "b": 3, "c": 10})), [(4, "b", ["a", "b"])])
        self.assertEqual(list(candidates(POOL, {"a": 2, "b": 2, "c": 7})), [(4, "a", ["a", "b"]), (4, "b", ["a", "b"])])
        self.assertEqual(list(candidates(POOL, {"a": 2, "b": 5, "c": 7})), [(4, "a", ["a", "b"])])
        self.assertEqual(list(candidates(POOL, {"a": 2, "b": 6, "c": 7})), [(1, "a", ["b"]), (4, "a", ["a", "b"])])

    def test_exact_items(self):
        pool = Pool(Item.exact("b", 3), Item.exact("a", 3), Item("c", 1, 5, price=4), Item("d", 3, 9, price=2),
                    Item("e", 4, 9), Item.exact("f", 4))
        self.assertEqual(list(candidates(pool, {"c": 4, "d": 3, "e": 4})),
                         [(6, "a", ["c", "d"]), (6, "b", ["c", "d"]), (6, "d", ["c", "d"])])
        self.assertEqual(list(candidates(pool, {"c": 2, "d": 3, "e": 4})), [(4, "c", ["c"])])
        self.assertEqual(list(candidates(pool.without("d"), {"c": 3, "e": 4})),
                         [(4, "a", ["c"]), (4, "b", ["c"]), (4, "c", ["c"])])

    def test_the_same_price_goes_by_the_name_then_by_the_items(self):
        pool = Pool(Item("b", 0, 5, price=2), Item("a", 4, 9, price=2))
        self.assertEqual(list(candidates(pool, {"b": 3, "a": 6})), [(2, "b", ["a"]), (2, "b", ["b"])])
        self.assertEqual(cheapest_least(pool, {"b": 3, "a": 6}), (2, "b", ["a"]))
        pool = Pool(Item("a", 0, 5, price=2), Item("b", 4, 9, price=2))
        self.assertEqual(list(candidates(pool, {"a": 3, "b": 6})), [(2, "a", ["a"]), (2, "a", ["b"])])

    def test_all_pools_of_three_small_items(self):
        for pool, values in small_pools(3):
            self.check_over_all_sets(pool, values)

    def test_all_sets_of_drawn_pools(self):
        for pool, values in drawn_values(4, 200, 7):
            self.check_over_all_sets(pool, values)
        for pool, values in drawn_values(5, 100, 7, most=30, widest=14):
            self.check_over_all_sets(pool, values)
        for pool, values in drawn_values(6, 60, 7, most=3, widest=14):
            self.check_over_all_sets(pool, values)

    def test_forty_items(self):
        for items in (forty_items(), row_items(40, list(range(1, 41))), wide_items(40)):
            for seed in range(10):
                self.check(Pool(*items), draw_values(Random(seed), Pool(*items)))
        equal = Pool(*[Item.exact(item.name, 7) for item in forty_items()])
        self.check(equal, {})
        self.assertEqual(len(list(candidates(equal, {}))), 40)

    def test_it_is_a_generator(self):
        found = candidates(POOL, VALUES)
        self.assertIs(iter(found), found)
        self.assertEqual([next(found), next(found), next(found, None)], [(1, "a", ["b"]), (3, "a", ["a"]), None])

    def test_walked_twice_with_other_values_in_between(self):
        for _ in range(2):
            self.assertEqual(list(candidates(POOL, VALUES)), [(1, "a", ["b"]), (3, "a", ["a"])])
            self.assertEqual(list(candidates(POOL, {"a": 1, "b": 4, "c": 10})), [(3, "a", ["a"])])
            self.assertEqual(list(candidates(POOL.without("b"), {"a": 1, "c": 10})), [(0, "a", []), (3, "a", ["a"])])

    def test_two_walks_at_once(self):
        one, two = candidates(POOL, VALUES), candidates(POOL, {"a": 4, "b": 3, "c": 10})
        self.assertEqual([next(one), next(two), next(one)], [(1, "a", ["b"]), (4, "b", ["a", "b"]), (3, "a", ["a"])])
        self.assertEqual([next(two, None), next(one, None)], [None, None])

    def test_the_same_dict_with_other_values(self):
        values = dict(VALUES)
        self.assertEqual(cheapest_least(POOL, values), (1, "a", ["b"]))
        values["b"] = 4
        self.assertEqual(cheapest_least(POOL, values), (3, "a", ["a"]))
        self.assertEqual(list(candidates(POOL, values)), [(3, "a", ["a"])])

    def test_new_lists(self):
        cheapest_least(POOL, VALUES)[2].append("x")
        for _, _, asked in candidates(POOL, VALUES):
            asked.append("x")
        self.assertEqual(cheapest_least(POOL, VALUES), (1, "a", ["b"]))
        self.assertEqual(list(candidates(POOL, VALUES)), [(1, "a", ["b"]), (3, "a", ["a"])])


class Errors(unittest.TestCase):

    def test_values(self):
        mixed = Pool(Item("a", 0, 5), Item.exact("b", 3), Item("c", -4, 2))
        for pool, values in [(POOL, VALUES), (mixed, {"a": 4, "c": 0}), (Pool(), {}), (Pool(Item.exact("a", 3)), {}),
                             (Pool(*[Item(name, 0, 5) for name in NAMES]), {name: 3 for name in NAMES})]:
            for thing in wrong_values(pool, values):
                refuse(self, InvalidValues, cheapest_least, pool, thing)
                refuse(self, InvalidValues, lambda pool, values: list(candidates(pool, values)), pool, thing)

    def test_errors_when_it_is_iterated(self):
        for thing in (None, {}, {"a": 1, "b": 7, "c": True}, [], "abc"):
            found = candidates(POOL, thing)
            self.assertIs(iter(found), found)
            with self.assertRaises(InvalidValues):
                next(found)

    def test_forty_items(self):
        pool = Pool(*forty_items())
        for thing in wrong_values(pool, draw_values(Random(1), pool))[::3]:
            refuse(self, InvalidValues, cheapest_least, pool, thing)


if __name__ == "__main__":
    unittest.main()
