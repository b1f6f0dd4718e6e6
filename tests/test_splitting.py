"""Tests of askranges.splitting: [12], [19] and [20]."""

import unittest
from itertools import permutations, product
from random import Random
from time import perf_counter

from askranges.errors import DoesNotFit, InvalidSplit, InvalidValues
from askranges.itemtypes import Item
from askranges.pools import Pool
from askranges.splitting import cheapest_split, fits, is_known, split_certificate
from tests import model
from tests.things import (NAMES, NOT_NAMES, Unchanged, draw_values, drawn_values, forty_items, refuse, row_items, same,
                          small_items, small_pools, wide_items, wrong_values)

POOL = Pool(Item("a", 0, 5, price=3), Item("b", 2, 9, price=2), Item("c", 7, 12))
VALUES = {"a": 1, "b": 6, "c": 10}


def splits_by_value(pool, values):
    """A split with each number of low items that fits, of equal values those with the smaller names first."""
    truth = model.truth_of(model.ranges_of(pool), values)
    names = sorted(truth, key=lambda name: (truth[name], name))
    return [sorted(names[:count]) for count in range(len(names) + 1)]


class SplitTest(unittest.TestCase):

    def check_certificate(self, pool, values, lows, price):
        """[20]: a certificate for a split whose total is this price."""
        ranges, prices = model.ranges_of(pool), model.prices_of(pool)
        with Unchanged(self, pool, values, lows):
            found = split_certificate(pool, values, lows)
            self.assertTrue(same(split_certificate(pool, values, lows), found))
        self.assertIs(found.__class__, list)
        self.assertEqual(found, sorted(found))
        pairs = [(low, high) for low, high, _ in found]
        self.assertEqual(len(set(pairs)), len(pairs))
        self.assertLessEqual(set(pairs), set(model.split_pairs(ranges, values, lows)))
        for entry in found:
            self.assertIs(entry.__class__, tuple)
            self.assertIs(entry[2].__class__, int)
            self.assertGreaterEqual(entry[2], 1)
        for name in ranges:
            self.assertLessEqual(sum(entry[2] for entry in found if name in entry[:2]), prices[name])
        always = model.needed_for_split(ranges, values, lows)
        self.assertEqual(sum(amount for _, _, amount in found) + sum(prices[name] for name in always), price)

    def check_cheapest(self, pool, values, lows):
        """[20]: a set after which the split is known, at the price that the certificate shows; return that price."""
        ranges, prices = model.ranges_of(pool), model.prices_of(pool)
        with Unchanged(self, pool, values, lows):
            answer = cheapest_split(pool, values, lows)
            self.assertTrue(same(cheapest_split(pool, values, lows), answer))
        self.assertIs(answer.__class__, tuple)
        price, asked = answer
        self.assertIs(asked.__class__, list)
        self.assertEqual(asked, sorted(set(asked)))
        self.assertLessEqual(set(asked), set(model.open_of(ranges)))
        self.assertTrue(same(price, sum(prices[name] for name in asked)))
        self.assertTrue(model.knows_split(model.after(ranges, values, asked), lows))
        self.assertIs(is_known(pool.told({name: values[name] for name in asked}), lows), True)
        self.check_certificate(pool, values, lows, price)
        return price

    def check_over_all_sets(self, pool, values, lows):
        """[19], [20]: whether it fits, and the least price over all sets."""
        ranges, prices = model.ranges_of(pool), model.prices_of(pool)
        does_fit = model.does_fit(ranges, values, lows)
        with Unchanged(self, pool, values, lows):
            self.assertIs(fits(pool, values, lows), does_fit)
        if not does_fit:
            refuse(self, DoesNotFit, cheapest_split, pool, values, lows)
            refuse(self, DoesNotFit, split_certificate, pool, values, lows)
            return
        price = self.check_cheapest(pool, values, lows)
        least_price = model.least_price_after(ranges, prices, values, lambda known: model.knows_split(known, lows))
        self.assertEqual(price, least_price)


class Example(unittest.TestCase):

    def test_example_of_20(self):
        pool = Pool(Item('a', 0, 5, price=3), Item('b', 2, 9, price=2), Item('c', 7, 12))
        self.assertEqual(cheapest_split(pool, {'a': 1, 'b': 6, 'c': 10}, ['a']), (2, ['b']))
        self.assertEqual(split_certificate(pool, {'a': 1, 'b': 6, 'c': 10}, ['a']), [('a', 'b', 2)])


class Fits(unittest.TestCase):

    def test_no_items(self):
        for lows in ([], ()):
            self.assertIs(fits(Pool(), {}, lows), True)

    def test_arguments_by_name(self):
        self.assertIs(fits(low_names=["a"], values=VALUES, pool=POOL), True)
        self.assertIs(fits(POOL, low_names=["b"], values=VALUES), False)

    def test_by_hand(self):
        answers = {"": True, "a": True, "b": False, "c": False, "ab": True, "ac": False, "bc": False, "abc": True}
        for lows, answer in answers.items():
            self.assertIs(fits(POOL, VALUES, list(lows)), answer)
            self.assertIs(fits(POOL, VALUES, tuple(lows)), answer)

    def test_equal_values(self):
        pool = Pool(Item("a", 0, 5), Item.exact("b", 3), Item.exact("c", 3))
        for lows in ("a", "b", "c", "ab", "ac", "bc"):
            self.assertIs(fits(pool, {"a": 3}, list(lows)), True)
            self.assertIs(fits(pool, {"a": 2}, list(lows)), "a" in lows)
            self.assertIs(fits(pool, {"a": 4}, list(lows)), "a" not in lows)

    def test_all_splits_of_small_pools(self):
        for pool, values in small_pools(11):
            ranges = model.ranges_of(pool)
            for lows in model.subsets(pool.names):
                with Unchanged(self, pool, values, lows):
                    self.assertIs(fits(pool, values, lows), model.does_fit(ranges, values, lows))

    def test_any_order_of_the_names(self):
        for pool, values in drawn_values(1, 40, 4):
            for chosen in model.subsets(pool.names):
                for lows in permutations(chosen):
                    answer = model.does_fit(model.ranges_of(pool), values, chosen)
                    self.assertIs(fits(pool, values, lows), answer)
                    self.assertIs(fits(pool, values, list(lows)), answer)

    def test_forty_items(self):
        for items in (forty_items(), row_items(40, [1] * 40), wide_items(40)):
            pool = Pool(*items)
            for seed in range(3):
                values = draw_values(Random(seed), pool)
                for lows in splits_by_value(pool, values):
                    self.assertIs(fits(pool, values, lows), True)
                    changed = Random(seed).sample(pool.names, len(lows))
                    self.assertIs(fits(pool, values, changed), model.does_fit(model.ranges_of(pool), values, changed))


class IsKnown(unittest.TestCase):

    def check(self, pool, lows):
        with Unchanged(self, pool, lows):
            self.assertIs(is_known(pool, lows), model.knows_split(model.ranges_of(pool), lows))

    def test_none_and_all_of_the_names(self):
        for pool in (Pool(), Pool(Item("a", 0, 5)), POOL, Pool(*forty_items())):
            for lows in ([], (), pool.names, tuple(pool.names), pool.names[::-1]):
                self.assertIs(is_known(pool, lows), True)

    def test_arguments_by_name(self):
        self.assertIs(is_known(low_names=["a"], pool=POOL), False)
        self.assertIs(is_known(low_names=("a",), pool=POOL.without("b")), True)

    def test_by_hand(self):
        self.assertIs(is_known(POOL, ["a"]), False)
        self.assertIs(is_known(POOL.told_by(a=1), ["a"]), True)
        self.assertIs(is_known(POOL.told_by(a=2), ["a"]), False)
        self.assertIs(is_known(POOL.told_by(a=2, b=2), ["a"]), True)
        self.assertIs(is_known(POOL.told_by(a=2, b=2), ["b"]), True)
        self.assertIs(is_known(POOL.told_by(a=3, b=2), ["a"]), False)
        self.assertIs(is_known(POOL.told_by(b=6), ["a", "b"]), True)
        self.assertIs(is_known(POOL.told_by(b=7), ["a", "b"]), False)
        self.assertIs(is_known(POOL.told_by(b=6), ["c"]), False)

    def test_an_exact_item_at_the_end_of_an_open_one(self):
        self.assertIs(is_known(Pool(Item("a", 0, 5), Item.exact("b", 5)), ["a"]), False)
        self.assertIs(is_known(Pool(Item("a", 0, 5), Item.exact("b", 6)), ["a"]), True)
        self.assertIs(is_known(Pool(Item("a", 0, 5), Item.exact("b", 0)), ["b"]), False)
        self.assertIs(is_known(Pool(Item("a", 0, 5), Item.exact("b", -1)), ["b"]), True)

    def test_all_splits_of_all_pools_of_three_small_items(self):
        for items in product(small_items("c", 2), small_items("a", 2), small_items("b", 2)):
            for lows in model.subsets("abc"):
                self.check(Pool(*items), list(lows))

    def test_before_and_after_asking(self):
        for pool, values in drawn_values(2, 50, 4):
            for asked in model.subsets(list(values)):
                known = pool.told({name: values[name] for name in asked})
                for chosen in model.subsets(pool.names):
                    self.check(known, chosen)
                    self.check(known, list(chosen)[::-1])

    def test_forty_items(self):
        for items in (forty_items(), row_items(40, [1] * 40), wide_items(40)):
            pool = Pool(*items)
            values = draw_values(Random(1), pool)
            for lows in splits_by_value(pool, values):
                self.check(pool, lows)
                self.check(pool.told(values), lows)


class CheapestSplit(SplitTest):

    def test_none_and_all_of_the_names(self):
        for pool, values in [(Pool(), {}), (POOL, VALUES), (Pool(Item("a", 0, 5)), {"a": 3})]:
            for lows in ([], (), pool.names, tuple(pool.names)):
                self.assertTrue(same(cheapest_split(pool, values, lows), (0, [])))
                self.assertTrue(same(split_certificate(pool, values, lows), []))

    def test_arguments_by_name(self):
        self.assertEqual(cheapest_split(low_names=["a"], values=VALUES, pool=POOL), (2, ["b"]))
        self.assertEqual(split_certificate(low_names=["a"], values=VALUES, pool=POOL), [("a", "b", 2)])

    def test_by_hand(self):
        self.assertEqual(cheapest_split(POOL, {"a": 3, "b": 6, "c": 10}, ["a"]), (2, ["b"]))
        self.assertEqual(cheapest_split(POOL, {"a": 3, "b": 5, "c": 10}, ["a"]), (5, ["a", "b"]))
        self.assertEqual(cheapest_split(POOL, {"a": 1, "b": 5, "c": 10}, ["a"]), (3, ["a"]))
        self.assertEqual(split_certificate(POOL, {"a": 1, "b": 5, "c": 10}, ["a"]), [])
        self.assertEqual(cheapest_split(POOL, VALUES, ["a", "b"]), (1, ["c"]))
        self.assertEqual(split_certificate(POOL, VALUES, ("b", "a")), [("b", "c", 1)])

    def test_the_low_name_comes_first(self):
        pool = Pool(Item("z", 0, 5, price=3), Item("a", 2, 9, price=4), Item("b", 3, 9, price=5))
        self.assertEqual(cheapest_split(pool, {"z": 1, "a": 6, "b": 7}, ["z"]), (3, ["z"]))
        found = split_certificate(pool, {"z": 1, "a": 6, "b": 7}, ["z"])
        self.assertIn(found, [[("z", "a", 3)], [("z", "b", 3)]]
                      + [[("z", "a", one), ("z", "b", 3 - one)] for one in (1, 2)])

    def test_what_a_low_item_with_few_partners_takes(self):
        # x is loose with p alone, y with p and q: y must leave p to x.
        pool = Pool(Item("y", 0, 20, price=5), Item("x", 0, 10, price=5), Item("p", 5, 40, price=5),
                    Item("q", 15, 40, price=5))
        values = {"y": 0, "x": 0, "p": 40, "q": 40}
        self.assertEqual(cheapest_split(pool, values, ["x", "y"])[0], 10)
        self.assertEqual(split_certificate(pool, values, ["x", "y"]), [("x", "p", 5), ("y", "q", 5)])
        mirrored = Pool(Item("y", -20, 0, price=5), Item("x", -10, 0, price=5), Item("p", -40, -5, price=5),
                        Item("q", -40, -15, price=5))
        self.assertEqual(split_certificate(mirrored, {"y": 0, "x": 0, "p": -40, "q": -40}, ["p", "q"]),
                         [("p", "x", 5), ("q", "y", 5)])

    def test_all_splits_of_small_pools(self):
        for pool, values in small_pools(17):
            for lows in model.subsets(pool.names):
                self.check_over_all_sets(pool, values, lows)

    def test_any_order_of_the_names(self):
        for pool, values in drawn_values(3, 30, 4):
            for chosen in splits_by_value(pool, values):
                price = cheapest_split(pool, values, chosen)[0]
                for lows in permutations(chosen):
                    self.assertEqual(self.check_cheapest(pool, values, lows), price)
                    self.assertEqual(self.check_cheapest(pool, values, list(lows)), price)

    def test_all_sets_of_drawn_pools(self):
        for pool, values in drawn_values(4, 60, 7):
            for lows in splits_by_value(pool, values):
                self.check_over_all_sets(pool, values, lows)
        for pool, values in drawn_values(5, 50, 7, most=30, widest=14):
            for lows in splits_by_value(pool, values):
                self.check_over_all_sets(pool, values, lows)
        for pool, values in drawn_values(6, 40, 7, most=3, widest=12):
            for lows in splits_by_value(pool, values):
                self.check_over_all_sets(pool, values, lows)

    def test_all_sets_of_ranges_that_nearly_all_overlap(self):
        for seed in range(40):
            random = Random(seed)
            lows = [Item(name, -random.randint(5, 20), random.randint(1, 20), price=random.randint(1, 9))
                    for name in "abcd"]
            highs = [Item(name, -random.randint(0, 20), random.randint(25, 40), price=random.randint(1, 9))
                     for name in "efgh"]
            pool = Pool(*lows, *highs)
            values = {**{item.name: random.choice([item.least, -1, 0, item.greatest]) for item in lows},
                      **{item.name: random.choice([item.greatest, 20, 21, 22]) for item in highs}}
            self.check_over_all_sets(pool, values, random.sample("abcd", 4))

    def test_known_exactly_after_the_needed_items_and_one_of_each_pair(self):
        """[19]: which sets make a split known."""
        for pool, values in list(drawn_values(7, 60, 5)) + list(small_pools(97)):
            ranges = model.ranges_of(pool)
            for lows in splits_by_value(pool, values):
                always = set(model.needed_for_split(ranges, values, lows))
                pairs = model.split_pairs(ranges, values, lows)
                for asked in model.subsets(list(values)):
                    expected = always <= set(asked) and all(low in asked or high in asked for low, high in pairs)
                    self.assertIs(is_known(pool.told({name: values[name] for name in asked}), lows), expected)

    def test_the_same_objects_with_other_contents(self):
        values, lows = dict(VALUES), ["a"]
        self.assertEqual(cheapest_split(POOL, values, lows), (2, ["b"]))
        values["a"] = 3
        self.assertEqual(split_certificate(POOL, values, lows), [])
        values["a"] = 1
        lows.append("b")
        self.assertEqual(cheapest_split(POOL, values, lows), (1, ["c"]))
        self.assertEqual(split_certificate(POOL, values, lows), [("b", "c", 1)])
        self.assertIs(is_known(POOL.without("c"), lows), True)
        lows.remove("a")
        self.assertIs(fits(POOL, values, lows), False)
        self.assertIs(is_known(POOL.without("c").told_by(a=2, b=2), lows), True)

    def test_new_lists(self):
        cheapest_split(POOL, VALUES, ["a"])[1].append("x")
        split_certificate(POOL, VALUES, ["a"]).append(("x", "y", 1))
        self.assertEqual(cheapest_split(POOL, VALUES, ["a"]), (2, ["b"]))
        self.assertEqual(split_certificate(POOL, VALUES, ["a"]), [("a", "b", 2)])


class FortyItems(SplitTest):

    def check_in_time(self, pool, values, lows):
        started = perf_counter()
        cheapest_split(pool, values, lows)
        split_certificate(pool, values, lows)
        self.assertLess(perf_counter() - started, 2)
        self.check_cheapest(pool, values, lows)

    def test_rows(self):
        for seed in range(3):
            random = Random(seed)
            items = row_items(40, [random.randint(1, 999) for _ in range(40)])
            pool = Pool(*items)
            for values in ({item.name: item.least + 7 for item in items}, draw_values(random, pool)):
                for lows in splits_by_value(pool, values)[::3]:
                    self.check_in_time(pool, values, lows)

    def test_twenty_low_and_twenty_high_items_that_nearly_all_overlap(self):
        items = wide_items(40)
        pool = Pool(*items)
        lows = [item.name for item in items if item.greatest < 100]
        self.assertEqual(len(lows), 20)
        ends = {item.name: item.least if item.name in lows else item.greatest for item in items}
        self.assertGreater(len(model.split_pairs(model.ranges_of(pool), ends, lows)), 380)
        self.check_in_time(pool, ends, lows)
        for seed in range(10):
            random = Random(seed)
            values = {item.name: item.least + random.randint(0, 15) if item.name in lows
                      else item.greatest - random.randint(0, 15) for item in items}
            self.check_in_time(pool, values, random.sample(lows, 20))
            steps = {item.name: random.randint(item.least, 0) if item.name in lows
                     else random.randint(0, item.greatest) for item in items}
            self.check_in_time(pool, steps, lows)

    def test_all_values_drawn(self):
        for items in (forty_items(), wide_items(40)):
            pool = Pool(*items)
            for seed in range(2):
                values = draw_values(Random(seed), pool)
                for lows in splits_by_value(pool, values)[::5]:
                    self.check_in_time(pool, values, lows)


class Errors(unittest.TestCase):

    def wrong_splits(self, pool):
        """Objects that are no splits of a pool of at least three items."""
        things = [thing for thing in NOT_NAMES + NAMES + ["abc", {"a": 1}, {}, {"a": None, "b": None}]
                  if not isinstance(thing, (list, tuple))]
        names = pool.names
        for part in NOT_NAMES + ["d", "aa", "abc"]:
            for at in (0, 1, len(names)):
                wrong = names[:at] + [part] + names[at:]
                things += [wrong, tuple(wrong)]
            things += [[part], [part, names[0]], (names[0], part)]
        twice = [names[:1] * 2, names + names[:1], names[:1] + names, [names[0], names[1], names[0]], names * 2]
        return things + twice + [tuple(thing) for thing in twice] + [[names], [tuple(names)], ["".join(names)]]

    def test_splits(self):
        mixed = Pool(Item("a", 0, 5), Item.exact("b", 3), Item("c", -4, 2))
        for pool, values in [(POOL, VALUES), (mixed, {"a": 4, "c": 0})]:
            for thing in self.wrong_splits(pool):
                refuse(self, InvalidSplit, is_known, pool, thing)
                for ask in (fits, cheapest_split, split_certificate):
                    refuse(self, InvalidSplit, ask, pool, values, thing)

    def test_splits_of_an_empty_pool(self):
        for thing in NOT_NAMES + NAMES + [["a"], ("a",), [[]], [()]]:
            if thing != [] and thing != ():
                refuse(self, InvalidSplit, is_known, Pool(), thing)
                for ask in (fits, cheapest_split, split_certificate):
                    refuse(self, InvalidSplit, ask, Pool(), {}, thing)

    def test_values_whatever_else_is_wrong(self):
        for pool, values in [(POOL, VALUES), (Pool(), {}), (Pool(Item.exact("a", 3)), {})]:
            for thing in wrong_values(pool, values):
                for lows in ([], ["a"], ["b"], ["x"], None, ["a", "a"]):
                    for ask in (fits, cheapest_split, split_certificate):
                        refuse(self, InvalidValues, ask, pool, thing, lows)

    def test_splits_that_do_not_fit(self):
        for lows in (["b"], ("c",), ["a", "c"], ("c", "b")):
            for ask in (cheapest_split, split_certificate):
                refuse(self, DoesNotFit, ask, POOL, VALUES, lows)
        pool = Pool(Item.exact("a", 3), Item.exact("b", 4))
        for ask in (cheapest_split, split_certificate):
            refuse(self, DoesNotFit, ask, pool, {}, ["b"])
            self.assertIn(ask(pool, {}, ["a"]), [(0, []), []])

    def test_an_invalid_split_comes_ahead_of_one_that_does_not_fit(self):
        for lows in (["b", "b"], ["c", "x"], ("b", None), ["c", ["a"]]):
            for ask in (cheapest_split, split_certificate):
                refuse(self, InvalidSplit, ask, POOL, VALUES, lows)

    def test_exact_items_are_names_of_a_split(self):
        pool = Pool(Item("a", 0, 5, price=4), Item.exact("b", 3), Item("c", -4, 2))
        self.assertIs(fits(pool, {"a": 4, "c": 0}, ["b", "c"]), True)
        self.assertIs(is_known(pool, ["b", "c"]), False)
        self.assertEqual(cheapest_split(pool, {"a": 4, "c": 0}, ["b", "c"]), (4, ["a"]))
        self.assertEqual(split_certificate(pool, {"a": 4, "c": 0}, ("c", "b")), [])


if __name__ == "__main__":
    unittest.main()
