"""Tests of askranges.sorting: [10]."""

import unittest
from itertools import product
from random import Random

from askranges.errors import NotSettled, UnknownName
from askranges.itemtypes import Item
from askranges.pools import Pool
from askranges.sorting import rank_pairs, ranks, sure_order
from tests import model
from tests.things import (NAMES, NOT_NAMES, Unchanged, draw_values, drawn_pools, forty_items, row_items, same,
                          small_items)

POOL = Pool(Item("a", 0, 5), Item("b", 2, 9), Item.exact("c", 10))


class Example(unittest.TestCase):

    def test_example_of_10(self):
        pool = Pool(Item('a', 0, 5), Item('b', 2, 9), Item.exact('c', 10))
        self.assertEqual([ranks(pool, 'a'), ranks(pool, 'c')], [(0, 1), (2, 2)])
        with self.assertRaises(NotSettled) as caught:
            sure_order(pool)
        self.assertEqual([caught.exception.first, caught.exception.second], ['a', 'b'])
        self.assertEqual(sure_order(pool.told_by(b=3, a=4)), ['b', 'a', 'c'])


class SureOrder(unittest.TestCase):

    def check(self, pool):
        """Hold sure_order against the words of [10]."""
        expected = model.sure_order_of(model.ranges_of(pool))
        with self.subTest(text=pool.text):
            with Unchanged(self, pool):
                if isinstance(expected, tuple):
                    with self.assertRaises(NotSettled) as caught:
                        sure_order(pool)
                    self.assertEqual((caught.exception.first, caught.exception.second), expected)
                else:
                    self.assertTrue(same(sure_order(pool), expected))

    def test_no_items(self):
        self.assertTrue(same(sure_order(Pool()), []))

    def test_one_item(self):
        self.assertEqual(sure_order(Pool(Item("b", -3, 3))), ["b"])
        self.assertEqual(sure_order(Pool(Item.exact("b", -3))), ["b"])

    def test_argument_by_name(self):
        self.assertEqual(sure_order(pool=Pool(Item("b", -3, 3))), ["b"])

    def test_all_pools_of_two_and_three_small_items(self):
        for first, second in product(small_items("b", 3), small_items("a", 3)):
            self.check(Pool(first, second))
        for items in product(small_items("c", 2), small_items("a", 2), small_items("b", 2)):
            self.check(Pool(*items))

    def test_ranges_that_do_not_overlap(self):
        pool = Pool(Item("c", -9, -5), Item("b", 0, 3), Item("a", 4, 5), Item.exact("d", -4), Item.exact("e", -10))
        self.assertEqual(sure_order(pool), ["e", "c", "d", "b", "a"])

    def test_equal_exact_items_go_by_their_names(self):
        items = [Item.exact(name, 3) for name in ("zz", "b", "ab", "a", "aa", "z")]
        pool = Pool(*items, Item.exact("c", 2), Item("aaa", 4, 7), Item("y", 0, 1))
        self.assertEqual(sure_order(pool), ["y", "c", "a", "aa", "ab", "b", "z", "zz", "aaa"])

    def test_an_exact_item_at_the_end_of_an_open_one_is_loose(self):
        for value in (0, 4):
            with self.assertRaises(NotSettled) as caught:
                sure_order(Pool(Item.exact("b", value), Item("a", 0, 4)))
            self.assertEqual([caught.exception.first, caught.exception.second], ["a", "b"])
        self.assertEqual(sure_order(Pool(Item.exact("b", -1), Item("a", 0, 4))), ["b", "a"])
        self.assertEqual(sure_order(Pool(Item.exact("b", 5), Item("a", 0, 4))), ["a", "b"])

    def test_first_of_several_loose_pairs(self):
        pool = Pool(Item("d", 0, 3), Item("c", 2, 9), Item("b", 9, 12), Item.exact("a", 40), Item.exact("e", 10))
        with self.assertRaises(NotSettled) as caught:
            sure_order(pool)
        self.assertEqual([caught.exception.first, caught.exception.second], ["b", "c"])

    def test_before_and_after_asking(self):
        for random, pool in drawn_pools(1, 60, 5):
            values = draw_values(random, pool)
            for asked in model.subsets(list(values)):
                self.check(pool.told({name: values[name] for name in asked}))

    def test_all_open_items_asked(self):
        for random, pool in drawn_pools(2, 200, 11):
            values = draw_values(random, pool)
            truth = model.truth_of(model.ranges_of(pool), values)
            self.assertEqual(sure_order(pool.told(values)), sorted(truth, key=lambda name: (truth[name], name)))

    def test_forty_items(self):
        pool = Pool(*forty_items())
        self.check(pool)
        for part in (0, 0.5, 0.9, 1):
            random = Random(3)
            values = draw_values(random, pool)
            self.check(pool.told({name: value for name, value in values.items() if random.random() <= part}))
        apart = Pool(*[Item(item.name, 2 * item.least, 2 * item.least + 10) for item in row_items(40, [1] * 40)])
        self.check(apart)
        self.assertEqual(sure_order(apart), [item.name for item in row_items(40, [1] * 40)])

    def test_new_list(self):
        pool = POOL.told_by(a=1)
        sure_order(pool).reverse()
        self.assertEqual(sure_order(pool), ["a", "b", "c"])


class Ranks(unittest.TestCase):

    def check(self, pool):
        ranges = model.ranges_of(pool)
        for name in pool.names:
            with Unchanged(self, pool):
                self.assertTrue(same(ranks(pool, name), model.ranks_of(ranges, name)))

    def test_by_hand(self):
        self.assertEqual(ranks(Pool(Item("a", 0, 5)), "a"), (0, 0))
        self.assertEqual([ranks(POOL, name) for name in "abc"], [(0, 1), (0, 1), (2, 2)])
        pool = Pool(Item("d", 0, 100), Item("c", 0, 1), Item("b", 2, 3), Item("a", 3, 4))
        self.assertEqual([ranks(pool, name) for name in "abcd"], [(1, 3), (1, 3), (0, 1), (0, 3)])

    def test_arguments_by_name(self):
        self.assertEqual(ranks(pool=POOL, name="c"), (2, 2))
        self.assertEqual(ranks(POOL, name="c"), (2, 2))

    def test_equal_exact_items(self):
        pool = Pool(*[Item.exact(name, 3) for name in "abcd"], Item.exact("e", 2), Item("f", 3, 4))
        self.assertEqual([ranks(pool, name) for name in "abcdef"], [(1, 5)] * 4 + [(0, 0), (1, 5)])

    def test_ranges_that_touch(self):
        self.assertEqual(ranks(Pool(Item("a", 0, 5), Item("b", 5, 9)), "a"), (0, 1))
        self.assertEqual(ranks(Pool(Item("a", 0, 5), Item("b", 6, 9)), "a"), (0, 0))
        self.assertEqual(ranks(Pool(Item("a", 0, 5), Item("b", 6, 9)), "b"), (1, 1))

    def test_all_pools_of_three_small_items(self):
        for items in product(small_items("c", 2), small_items("a", 2), small_items("b", 2)):
            self.check(Pool(*items))

    def test_drawn_pools(self):
        for random, pool in drawn_pools(4, 200, 11):
            self.check(pool)
            self.check(pool.told(draw_values(random, pool)))

    def test_forty_items(self):
        self.check(Pool(*forty_items()))
        self.check(Pool(*row_items(40, [1] * 40)))
        self.check(Pool(*[Item.exact(item.name, 7) for item in forty_items()]))

    def test_places_in_the_possible_orders(self):
        """By [11] an item has each place from the first to the second number, and no other one."""
        for _, pool in drawn_pools(5, 60, 4):
            orders = model.possible_orders(model.ranges_of(pool))
            for name in pool.names:
                first, last = ranks(pool, name)
                places = sorted({order.index(name) for order in orders})
                self.assertEqual(places, list(range(first, last + 1)))

    def test_places_for_all_pools_of_three_small_items(self):
        for items in product(small_items("c", 2), small_items("a", 2), small_items("b", 2)):
            pool = Pool(*items)
            orders = model.possible_orders(model.ranges_of(pool))
            for name in pool.names:
                first, last = ranks(pool, name)
                self.assertEqual({order.index(name) for order in orders}, set(range(first, last + 1)))

    def test_unknown_names(self):
        for pool in (Pool(), POOL, Pool(*forty_items())):
            for thing in NOT_NAMES + NAMES + ["b", "c", "aa", "abc"]:
                if isinstance(thing, str) and thing in pool.names:
                    continue
                with self.subTest(thing=repr(thing)[:80]):
                    with Unchanged(self, pool, thing):
                        with self.assertRaises(UnknownName) as caught:
                            ranks(pool, thing)
                        self.assertIs(caught.exception.__class__, UnknownName)

    def test_known_names(self):
        pool = Pool(*[Item(name, 0, 1) for name in NAMES])
        for name in NAMES:
            self.assertEqual(ranks(pool, name), (0, len(NAMES) - 1))


class RankPairs(unittest.TestCase):

    def expected(self, pool):
        ranges = model.ranges_of(pool)
        return [(name, model.ranks_of(ranges, name)) for name in pool.names]

    def test_by_hand(self):
        self.assertTrue(same(list(rank_pairs(POOL)), [("a", (0, 1)), ("b", (0, 1)), ("c", (2, 2))]))
        self.assertEqual(list(rank_pairs(pool=POOL.told_by(b=3, a=4))), [("a", (1, 1)), ("b", (0, 0)), ("c", (2, 2))])

    def test_no_items(self):
        self.assertEqual(list(rank_pairs(Pool())), [])
        self.assertIsNone(next(rank_pairs(Pool()), None))

    def test_drawn_pools(self):
        for _, pool in drawn_pools(6, 100, 11):
            with Unchanged(self, pool):
                self.assertTrue(same(list(rank_pairs(pool)), self.expected(pool)))

    def test_forty_items(self):
        pool = Pool(*forty_items())
        with Unchanged(self, pool):
            self.assertTrue(same(list(rank_pairs(pool)), self.expected(pool)))

    def test_it_is_a_generator(self):
        pairs = rank_pairs(POOL)
        self.assertIs(iter(pairs), pairs)
        self.assertEqual([next(pairs), next(pairs), next(pairs), next(pairs, None)], self.expected(POOL) + [None])

    def test_walked_twice(self):
        for _ in range(2):
            self.assertEqual(list(rank_pairs(POOL)), self.expected(POOL))

    def test_two_walks_at_once(self):
        pairs = self.expected(POOL)
        self.assertEqual(list(zip(rank_pairs(POOL), rank_pairs(POOL))), list(zip(pairs, pairs)))
        self.assertEqual([(one, two) for one in rank_pairs(POOL) for two in rank_pairs(POOL)],
                         list(product(pairs, pairs)))


if __name__ == "__main__":
    unittest.main()
