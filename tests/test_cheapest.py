"""Tests of askranges.cheapest: [6], [14] and [15]."""

import unittest
from itertools import combinations, product
from random import Random

from askranges.cheapest import cheapest, paths
from askranges.errors import InvalidValues
from askranges.itemtypes import Item
from askranges.pools import Pool
from askranges.settling import needed, settles
from tests import model
from tests.things import (NAMES, NOT_NAMES, Unchanged, draw_values, drawn_pools, forty_items, row_items, same,
                          small_items)

POOL = Pool(Item("a", 0, 5), Item("b", 2, 9, price=4), Item("c", 7, 12))
VALUES = {"a": 1, "b": 6, "c": 10}


def drawn(seed, count, most_items, **more):
    """Drawn pools with values for them."""
    for random, pool in drawn_pools(seed, count, most_items, **more):
        yield pool, draw_values(random, pool)


def small_pools():
    """All pools of three small items with different prices and all values for each."""
    for items in product(small_items("c", 3, 3), small_items("a", 2, 2), small_items("b", 2, 4)):
        ranges = model.ranges_of(Pool(*items))
        for values in model.all_values(ranges, model.open_of(ranges)):
            yield Pool(*items), values


def row_values(items):
    """Values for a row with which no item is needed."""
    return {item.name: item.least + 5 + at * 3 % 5 for at, item in enumerate(items)}


def drawn_row(random, count):
    """A row that is parted at some places, with some exact items, values for it, and the same rows of names."""
    items, rows, values = [], [[]], {}
    for item in row_items(count, [random.randint(1, 999) for _ in range(count)]):
        kind = random.random()
        if kind < 0.1:
            # Its own value is in no other range.
            items.append(Item.exact(item.name, item.least + 7))
        elif kind < 0.2:
            # It ends where no other range begins.
            items.append(Item(item.name, item.least, item.greatest - 5, price=item.price))
        else:
            items.append(item)
        if items[-1].is_exact:
            rows.append([])
        else:
            values[item.name] = item.least + random.randint(5, 9)
            rows[-1].append(item.name)
            if items[-1].greatest < item.greatest:
                rows.append([])
    return items, values, [row for row in rows if row]


def least_price_on(prices):
    """The least price of some places of a row that contain one of each two neighbours, told from its end."""
    # The least prices for the places from some one on: of any choice, and if the place before it is left out.
    free = bound = 0
    for price in reversed(prices):
        free, bound = min(price + free, bound), price + free
    return free


class Example(unittest.TestCase):

    def test_example_of_15(self):
        pool = Pool(Item('a', 0, 5), Item('b', 2, 9, price=4), Item('c', 7, 12))
        self.assertEqual(paths(pool, {'a': 1, 'b': 6, 'c': 10}), [['a', 'b', 'c']])
        self.assertEqual(cheapest(pool, {'a': 1, 'b': 6, 'c': 10}), (2, ['a', 'c']))


class Paths(unittest.TestCase):

    def check(self, pool, values):
        """Hold paths against the words of [6] and [14]."""
        ranges = model.ranges_of(pool)
        with Unchanged(self, pool, values):
            found = paths(pool, values)
        for thing in [found] + found:
            self.assertIs(thing.__class__, list)
        walked = [name for path in found for name in path]
        self.assertTrue(same(walked, sorted(model.free_of(ranges, values), key=lambda name: ranges[name][0])))
        self.assertNotIn([], found)
        place = {name: at for at, name in enumerate(walked)}
        home = {name: at for at, path in enumerate(found) for name in path}
        for one, two in combinations(walked, 2):
            neighbours = home[one] == home[two] and place[two] - place[one] == 1
            self.assertIs(model.overlap(ranges, one, two), neighbours)

    def test_no_open_items(self):
        for pool in (Pool(), Pool(Item.exact("a", 3)), Pool(Item.exact("a", 3), Item.exact("b", 3))):
            self.assertTrue(same(paths(pool, {}), []))

    def test_one_item(self):
        self.assertEqual(paths(Pool(Item("a", 0, 5)), {"a": 3}), [["a"]])

    def test_arguments_by_name(self):
        self.assertEqual(paths(pool=POOL, values=VALUES), [["a", "b", "c"]])
        self.assertEqual(paths(values=VALUES, pool=POOL), [["a", "b", "c"]])

    def test_by_hand(self):
        self.assertEqual(paths(POOL, {"a": 3, "b": 6, "c": 10}), [["a"], ["c"]])
        self.assertEqual(paths(POOL, {"a": 1, "b": 8, "c": 10}), [["a", "b"]])
        self.assertEqual(paths(POOL, {"a": 4, "b": 5, "c": 10}), [["c"]])
        self.assertEqual(paths(POOL, {"a": 5, "b": 7, "c": 9}), [["a"]])
        self.assertEqual(paths(POOL, {"a": 5, "b": 5, "c": 9}), [["c"]])

    def test_ranges_that_touch(self):
        pool = Pool(Item("c", 0, 3), Item("b", 3, 6), Item("a", 7, 9), Item("d", 9, 12))
        self.assertEqual(paths(pool, {"a": 8, "b": 5, "c": 0, "d": 11}), [["c", "b"], ["a", "d"]])
        self.assertEqual(paths(pool, {"a": 8, "b": 3, "c": 0, "d": 11}), [["b"], ["a", "d"]])

    def test_exact_items_are_not_on_a_path(self):
        pool = Pool(Item("a", 0, 4), Item.exact("b", 4), Item("c", 5, 9), Item.exact("d", 10), Item("e", 8, 9))
        self.assertEqual(paths(pool, {"a": 0, "c": 5, "e": 9}), [["e"]])
        self.assertEqual(paths(pool, {"a": 0, "c": 5, "e": 8}), [["e"]])
        self.assertEqual(paths(pool.without("b"), {"a": 0, "c": 5, "e": 9}), [["a"], ["e"]])
        self.assertEqual(paths(pool.without("e"), {"a": 0, "c": 5}), [["c"]])

    def test_a_path_goes_by_the_least_values_not_by_the_names(self):
        pool = Pool(Item("a", 20, 34), Item("b", -10, 4), Item("c", 10, 24), Item("d", 0, 14), Item("e", -40, -30))
        values = {"a": 27, "b": -3, "c": 17, "d": 7, "e": -40}
        self.assertEqual(paths(pool, values), [["e"], ["b", "d", "c", "a"]])

    def test_all_pools_of_three_small_items(self):
        for pool, values in list(small_pools())[::3]:
            self.check(pool, values)

    def test_drawn_pools(self):
        for pool, values in drawn(1, 300, 11):
            self.check(pool, values)
        for pool, values in drawn(2, 300, 11, most=60, widest=20):
            self.check(pool, values)

    def test_rows(self):
        for count in range(1, 41):
            items = row_items(count, [1] * count)
            self.assertEqual(paths(Pool(*items), row_values(items)), [[item.name for item in items]])
        for seed in range(60):
            items, values, rows = drawn_row(Random(seed), 40)
            self.assertEqual(paths(Pool(*items), values), rows)
            self.check(Pool(*items), values)

    def test_forty_items(self):
        for items in (forty_items(), row_items(40, [1] * 40)):
            for seed in range(10):
                self.check(Pool(*items), draw_values(Random(seed), Pool(*items)))

    def test_new_lists(self):
        found = paths(POOL, VALUES)
        found[0].append("x")
        found.append(["y"])
        self.assertEqual(paths(POOL, VALUES), [["a", "b", "c"]])
        self.assertEqual(cheapest(POOL, VALUES), (2, ["a", "c"]))


class Cheapest(unittest.TestCase):

    def check(self, pool, values, least_price):
        with Unchanged(self, pool, values):
            answer = cheapest(pool, values)
            self.assertTrue(same(cheapest(pool, values), answer))
        self.assertIs(answer.__class__, tuple)
        price, asked = answer
        self.assertIs(asked.__class__, list)
        self.assertEqual(asked, sorted(set(asked)))
        self.assertIs(settles(pool, values, asked), True)
        self.assertIsNone(model.first_loose_of(model.ranges_of(pool), values, asked))
        self.assertTrue(same(price, sum(pool.item(name).price for name in asked)))
        self.assertEqual(price, least_price)

    def check_over_all_sets(self, pool, values):
        self.check(pool, values, model.least_price_of(model.ranges_of(pool), model.prices_of(pool), values))

    def check_over_the_paths(self, pool, values):
        ranges = model.ranges_of(pool)
        least_price = sum(pool.item(name).price for name in model.needed_of(ranges, values))
        row = []
        for name in sorted(model.free_of(ranges, values), key=lambda name: ranges[name][0]):
            if row and not model.overlap(ranges, row[-1], name):
                least_price += least_price_on([pool.item(each).price for each in row])
                row = []
            row.append(name)
        least_price += least_price_on([pool.item(each).price for each in row])
        self.check(pool, values, least_price)

    def test_no_open_items(self):
        for pool in (Pool(), Pool(Item.exact("a", 3)), Pool(Item.exact("a", 3), Item.exact("b", 3))):
            self.assertTrue(same(cheapest(pool, {}), (0, [])))

    def test_one_item(self):
        self.assertTrue(same(cheapest(Pool(Item("a", 0, 5, price=9)), {"a": 3}), (0, [])))
        self.assertTrue(same(cheapest(Pool(Item("a", 0, 5, price=9), Item.exact("b", 5)), {"a": 3}), (9, ["a"])))

    def test_arguments_by_name(self):
        self.assertEqual(cheapest(pool=POOL, values=VALUES), (2, ["a", "c"]))
        self.assertEqual(cheapest(values=VALUES, pool=POOL), (2, ["a", "c"]))

    def test_by_hand(self):
        for prices, answer in [((1, 4, 2), (3, ["a", "c"])), ((3, 4, 2), (4, ["b"])), ((1, 1, 1), (1, ["b"])),
                               ((999, 998, 1), (998, ["b"]))]:
            one, two, three = prices
            pool = Pool(Item("a", 0, 5, price=one), Item("b", 2, 9, price=two), Item("c", 7, 12, price=three))
            self.assertTrue(same(cheapest(pool, VALUES), answer))
        self.assertTrue(same(cheapest(POOL, {"a": 3, "b": 6, "c": 10}), (4, ["b"])))
        self.assertTrue(same(cheapest(POOL, {"a": 4, "b": 5, "c": 10}), (5, ["a", "b"])))
        self.assertTrue(same(cheapest(POOL, {"a": 5, "b": 8, "c": 9}), (5, ["b", "c"])))
        self.assertTrue(same(cheapest(POOL, {"a": 1, "b": 8, "c": 10}), (2, ["a", "c"])))

    def test_two_neighbours_are_not_both_left_out(self):
        items = row_items(4, [1, 9, 9, 1])
        names = [item.name for item in items]
        price, asked = cheapest(Pool(*items), row_values(items))
        self.assertEqual(price, 10)
        self.assertIn(asked, [sorted([names[0], names[2]]), sorted([names[1], names[3]])])

    def test_ties_have_any_answer(self):
        for count in (2, 4, 6):
            items = row_items(count, [5] * count)
            self.check_over_all_sets(Pool(*items), row_values(items))

    def test_all_pools_of_three_small_items(self):
        for pool, values in list(small_pools())[::2]:
            self.check_over_all_sets(pool, values)

    def test_all_sets_of_drawn_pools(self):
        for pool, values in drawn(3, 200, 6):
            self.check_over_all_sets(pool, values)
        for pool, values in drawn(4, 100, 7, most=30, widest=14):
            self.check_over_all_sets(pool, values)

    def test_all_sets_of_rows(self):
        random = Random(5)
        for count in range(1, 10):
            for most in (1, 3, 999):
                items = row_items(count, [random.randint(1, most) for _ in range(count)])
                self.check_over_all_sets(Pool(*items), row_values(items))
                self.check_over_the_paths(Pool(*items), row_values(items))
                self.check_over_the_paths(Pool(*items), draw_values(random, Pool(*items)))

    def test_rows_of_up_to_forty_items(self):
        random = Random(6)
        for count in range(1, 41):
            for most in (2, 999):
                prices = [random.randint(1, most) for _ in range(count)]
                items = row_items(count, prices)
                self.check(Pool(*items), row_values(items), least_price_on(prices))

    def test_parted_rows(self):
        for seed in range(60):
            items, values, rows = drawn_row(Random(seed), 40)
            prices = {item.name: item.price for item in items}
            self.check(Pool(*items), values, sum(least_price_on([prices[name] for name in row]) for row in rows))

    def test_drawn_pools_over_the_paths(self):
        for pool, values in drawn(7, 200, 11, most=60, widest=20):
            self.check_over_the_paths(pool, values)

    def test_forty_items(self):
        for items in (forty_items(), row_items(40, list(range(1, 41))), [Item(name, 0, 5) for name in NAMES]):
            for seed in range(10):
                self.check_over_the_paths(Pool(*items), draw_values(Random(seed), Pool(*items)))

    def test_the_reckoning_of_rows(self):
        """The tests' own reckoning, held against all sets of places."""
        random = Random(8)
        for count in range(9):
            prices = [random.randint(1, 5) for _ in range(count)]
            choices = [taken for taken in product([0, 1], repeat=count)
                       if all(one or two for one, two in zip(taken, taken[1:]))]
            self.assertEqual(least_price_on(prices),
                             min(sum(price for price, one in zip(prices, taken) if one) for taken in choices))

    def test_needed_items_are_always_asked(self):
        for pool, values in drawn(9, 100, 9):
            self.assertLessEqual(set(needed(pool, values)), set(cheapest(pool, values)[1]))

    def test_new_list(self):
        cheapest(POOL, VALUES)[1].append("x")
        self.assertEqual(cheapest(POOL, VALUES), (2, ["a", "c"]))


class Errors(unittest.TestCase):

    def refuse(self, pool, values):
        with self.subTest(values=repr(values)[:200]):
            for ask in (paths, cheapest):
                with Unchanged(self, pool, values):
                    with self.assertRaises(InvalidValues) as caught:
                        ask(pool, values)
                    self.assertIs(caught.exception.__class__, InvalidValues)

    def test_values_that_are_no_dict(self):
        for thing in NOT_NAMES + NAMES + [["a", "b", "c"], ("a", "b", "c"), "abc"]:
            self.refuse(POOL, thing)
            if thing != {}:
                self.refuse(Pool(), thing)

    def test_other_names(self):
        self.refuse(POOL, {})
        for name in VALUES:
            self.refuse(POOL, {other: VALUES[other] for other in VALUES if other != name})
        for key in ("d", "A", "", 0, True, 10 ** 39):
            self.refuse(POOL, {**VALUES, key: 6})
            self.refuse(POOL, {"a": 1, "b": 6, key: 10})
        self.refuse(Pool(Item.exact("a", 3)), {"a": 3})

    def test_other_values(self):
        for name in VALUES:
            for value in (None, True, "6", [6], (), {}, 10 ** 39, POOL.item(name).least - 1,
                          POOL.item(name).greatest + 1):
                self.refuse(POOL, {**VALUES, name: value})


if __name__ == "__main__":
    unittest.main()
