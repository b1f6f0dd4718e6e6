"""Tests of askranges.certificates: [6], [12] and [16]."""

import unittest
from itertools import combinations, permutations, product
from random import Random

from askranges.certificates import certificate, check_certificate
from askranges.cheapest import cheapest, paths
from askranges.errors import InvalidValues
from askranges.itemtypes import Item
from askranges.pools import Pool
from tests import model
from tests.things import (NAMES, NOT_INTEGERS, NOT_NAMES, Unchanged, draw_values, drawn_values, forty_items, refuse,
                          row_items, same, small_pools, wrong_values)

POOL = Pool(Item("a", 0, 5), Item("b", 2, 9, price=4), Item("c", 7, 12))
VALUES = {"a": 1, "b": 6, "c": 10}
# A row of five, b to f, of which f is needed for the sake of the exact a; g is apart from all others.
ROW = Pool(Item("b", 0, 14, price=5), Item("d", 10, 24, price=3), Item("c", 20, 34, price=4),
           Item("e", 30, 44, price=6), Item("f", 40, 60, price=7), Item.exact("a", 55), Item("g", 70, 80, price=9))
ROW_VALUES = {"b": 7, "d": 17, "c": 27, "e": 37, "f": 50, "g": 75}
HUGE = 10 ** 39


def row_values(items):
    """Values for a row with which no item is needed."""
    return {item.name: item.least + 5 + at * 3 % 5 for at, item in enumerate(items)}


def free_pairs(pool, values):
    """The pairs that a certificate may have, by [16]."""
    ranges = model.ranges_of(pool)
    return [pair for pair in combinations(sorted(model.free_of(ranges, values)), 2) if model.overlap(ranges, *pair)]


def needed_price(pool, values):
    return sum(pool.item(name).price for name in model.needed_of(model.ranges_of(pool), values))


def is_certificate(pool, values, thing):
    """Whether a list of tuples is a certificate, by the words of [16]."""
    pairs = free_pairs(pool, values)
    return (all((first, second) in pairs and amount >= 1 for first, second, amount in thing)
            and len({entry[:2] for entry in thing}) == len(thing)
            and all(sum(entry[2] for entry in thing if name in entry[:2]) <= pool.item(name).price
                    for name in pool.names))


def total_of(pool, values, thing):
    return needed_price(pool, values) + sum(amount for _, _, amount in thing)


class Example(unittest.TestCase):

    def test_example_of_16(self):
        pool = Pool(Item('a', 0, 5), Item('b', 2, 9, price=4), Item('c', 7, 12))
        self.assertEqual(certificate(pool, {'a': 1, 'b': 6, 'c': 10}), [('a', 'b', 1), ('b', 'c', 1)])
        self.assertIs(check_certificate(pool, {'a': 1, 'b': 6, 'c': 10}, [('a', 'b', 1)], 2), False)


class Certificate(unittest.TestCase):

    def check(self, pool, values, least_price):
        with Unchanged(self, pool, values):
            found = certificate(pool, values)
            self.assertTrue(same(certificate(pool, values), found))
        self.assertIs(found.__class__, list)
        for entry in found:
            self.assertIs(entry.__class__, tuple)
            self.assertIs(entry[2].__class__, int)
        self.assertEqual(found, sorted(found))
        self.assertTrue(is_certificate(pool, values, found))
        self.assertEqual(total_of(pool, values, found), least_price)
        self.check_bars(pool, values, found, least_price)

    def check_bars(self, pool, values, thing, total):
        with Unchanged(self, pool, values, thing):
            for bar, answer in [(total, True), (total - 1, True), (total + 1, False), (0, True), (-5, True),
                                (-HUGE, True), (HUGE, False)]:
                self.assertIs(check_certificate(pool, values, thing, bar), answer)

    def check_over_all_sets(self, pool, values):
        self.check(pool, values, model.least_price_of(model.ranges_of(pool), model.prices_of(pool), values))

    def test_no_open_items(self):
        for pool in (Pool(), Pool(Item.exact("a", 3)), Pool(Item.exact("a", 3), Item.exact("b", 3))):
            self.assertTrue(same(certificate(pool, {}), []))
            self.check(pool, {}, 0)

    def test_one_item(self):
        self.check(Pool(Item("a", 0, 5, price=9)), {"a": 3}, 0)
        self.check(Pool(Item("a", 0, 5, price=9), Item.exact("b", 5)), {"a": 3}, 9)

    def test_arguments_by_name(self):
        self.assertEqual(certificate(values=VALUES, pool=POOL), [("a", "b", 1), ("b", "c", 1)])
        found = [("a", "b", 1), ("b", "c", 1)]
        self.assertIs(check_certificate(bar=2, thing=found, values=VALUES, pool=POOL), True)
        self.assertIs(check_certificate(POOL, VALUES, bar=3, thing=found), False)

    def test_by_hand(self):
        self.assertEqual(certificate(POOL, {"a": 3, "b": 6, "c": 10}), [])
        self.assertEqual(certificate(POOL, {"a": 1, "b": 8, "c": 10}), [("a", "b", 1)])
        self.assertEqual(certificate(Pool(Item("b", 0, 5, price=7), Item("a", 4, 9, price=8)), {"b": 1, "a": 8}),
                         [("a", "b", 7)])
        self.check(ROW, ROW_VALUES, 7 + 3 + 4)

    def test_names_against_the_values(self):
        pool = Pool(Item("z", 0, 14, price=2), Item("m", 10, 24, price=5), Item("a", 20, 34, price=2))
        self.assertEqual(certificate(pool, {"z": 7, "m": 17, "a": 27}), [("a", "m", 2), ("m", "z", 2)])

    def test_amounts_in_the_middle_of_a_row_are_not_taken_first(self):
        items = row_items(4, [5, 5, 5, 5])
        self.check(Pool(*items), row_values(items), 10)

    def test_all_pools_of_three_small_items(self):
        for pool, values in small_pools(3):
            self.check_over_all_sets(pool, values)

    def test_all_sets_of_drawn_pools(self):
        for pool, values in drawn_values(1, 150, 6):
            self.check_over_all_sets(pool, values)
        for pool, values in drawn_values(2, 100, 7, most=30, widest=14):
            self.check_over_all_sets(pool, values)

    def test_all_sets_of_rows(self):
        random = Random(3)
        for count in range(1, 10):
            for most in (1, 3, 999):
                items = row_items(count, [random.randint(1, most) for _ in range(count)])
                self.check_over_all_sets(Pool(*items), row_values(items))
                self.check_over_all_sets(Pool(*items), draw_values(random, Pool(*items)))

    def test_rows_of_up_to_forty_items(self):
        random = Random(4)
        for count in range(1, 41):
            for most in (2, 999):
                items = row_items(count, [random.randint(1, most) for _ in range(count)])
                pool, values = Pool(*items), row_values(items)
                self.assertEqual(paths(pool, values), [[item.name for item in items]])
                self.check(pool, values, cheapest(pool, values)[0])

    def test_forty_items(self):
        for items in (forty_items(), row_items(40, list(range(1, 41))), [Item(name, 0, 5) for name in NAMES]):
            for seed in range(10):
                pool = Pool(*items)
                values = draw_values(Random(seed), pool)
                self.check(pool, values, cheapest(pool, values)[0])

    def test_new_list(self):
        certificate(POOL, VALUES).append(("x", "y", 1))
        certificate(POOL, VALUES).clear()
        self.assertEqual(certificate(POOL, VALUES), [("a", "b", 1), ("b", "c", 1)])


class Support(unittest.TestCase):
    """[6], [16]: what a certificate shows."""

    def test_bars_up_to_the_price_of_cheapest(self):
        for pool, values in drawn_values(5, 100, 7):
            price = cheapest(pool, values)[0]
            found = certificate(pool, values)
            for bar in range(-1, price + 3):
                self.assertIs(check_certificate(pool, values, found, bar), bar <= price)

    def test_no_settling_set_is_cheaper_than_an_accepted_bar(self):
        random = Random(6)
        accepted = 0
        for pool, values in list(drawn_values(7, 150, 6)) + [(ROW, ROW_VALUES)] * 20:
            least_price = model.least_price_of(model.ranges_of(pool), model.prices_of(pool), values)
            pairs = free_pairs(pool, values)
            for _ in range(20):
                thing = [(*pair, random.randint(1, 6)) for pair in random.sample(pairs, random.randint(0, len(pairs)))]
                for bar in range(least_price + 3):
                    answer = check_certificate(pool, values, thing, bar)
                    accepted += bool(thing) and answer
                    self.assertFalse(answer and bar > least_price)
        self.assertGreater(accepted, 500)

    def test_higher_prices(self):
        random = Random(8)
        for pool, values in list(drawn_values(9, 60, 7)) + [(POOL, VALUES), (ROW, ROW_VALUES)]:
            found = certificate(pool, values)
            price = cheapest(pool, values)[0]
            dearer = pool.with_items(*[
                Item(item.name, item.least, item.greatest, price=item.price + random.randint(0, 5))
                for item in pool.walk() if not item.is_exact])
            for bar in range(price + 1):
                self.assertIs(check_certificate(dearer, values, found, bar), True)
            self.assertGreaterEqual(cheapest(dearer, values)[0], price)

    def test_lower_prices(self):
        self.assertIs(check_certificate(POOL, VALUES, [("a", "b", 1), ("b", "c", 1)], 2), True)
        cheaper = POOL.with_items(Item("b", 2, 9, price=1))
        self.assertIs(check_certificate(cheaper, VALUES, [("a", "b", 1), ("b", "c", 1)], 1), False)
        self.assertIs(check_certificate(cheaper, VALUES, [("a", "b", 1)], 1), True)


class Check(unittest.TestCase):

    def accept(self, pool, values, thing, total):
        """Accept a list exactly up to the bar that is its total."""
        with Unchanged(self, pool, values, thing):
            for bar in (-HUGE, -1, 0, 1, total - 1, total, total + 1, total + 2, 999, HUGE):
                self.assertIs(check_certificate(pool, values, thing, bar), bar <= total)

    def deny(self, pool, values, thing):
        with self.subTest(thing=repr(thing)[:200]):
            with Unchanged(self, pool, values, thing):
                for bar in (-HUGE, -1, 0, 1, 2, 1000, HUGE):
                    self.assertIs(check_certificate(pool, values, thing, bar), False)

    def test_certificates_below_the_least_price(self):
        self.accept(POOL, VALUES, [], 0)
        self.accept(POOL, VALUES, [("a", "b", 1)], 1)
        self.accept(POOL, VALUES, [("b", "c", 1)], 1)
        self.accept(POOL, {"a": 3, "b": 6, "c": 10}, [], 4)
        self.accept(POOL, {"a": 1, "b": 8, "c": 10}, [], 1)
        self.accept(POOL, {"a": 1, "b": 8, "c": 10}, [("a", "b", 1)], 2)
        self.accept(Pool(), {}, [], 0)

    def test_any_order_of_the_tuples(self):
        whole = [("b", "d", 2), ("c", "d", 1), ("c", "e", 3)]
        for count in range(4):
            for entries in permutations(whole, count):
                self.accept(ROW, ROW_VALUES, list(entries), 7 + sum(amount for _, _, amount in entries))

    def test_all_amounts_on_two_pairs(self):
        pool = Pool(Item("a", 0, 14, price=3), Item("b", 10, 24, price=4), Item("c", 20, 34, price=2))
        values = {"a": 7, "b": 17, "c": 27}
        for one, two in product(range(-1, 6), repeat=2):
            for thing in ([("a", "b", one), ("b", "c", two)], [("b", "c", two), ("a", "b", one)]):
                if 1 <= one <= 3 and 1 <= two <= 2 and one + two <= 4:
                    self.accept(pool, values, thing, one + two)
                else:
                    self.deny(pool, values, thing)
        for one in range(1, 4):
            self.accept(pool, values, [("a", "b", one)], one)
        self.deny(pool, values, [("a", "b", 4)])
        self.deny(pool, values, [("a", "b", HUGE)])
        self.deny(pool, values, [("a", "b", -HUGE)])

    def test_one_more_or_less_at_each_tuple(self):
        for pool, values in list(drawn_values(10, 100, 7, most=30, widest=14)) + [(ROW, ROW_VALUES)]:
            found = certificate(pool, values)
            for at, (first, second, amount) in enumerate(found):
                for changed in (amount - 1, amount + 1):
                    thing = found[:at] + [(first, second, changed)] + found[at + 1:]
                    if is_certificate(pool, values, thing):
                        self.accept(pool, values, thing, total_of(pool, values, thing))
                    else:
                        self.deny(pool, values, thing)

    def test_a_pair_twice(self):
        self.deny(ROW, ROW_VALUES, [("b", "d", 1), ("b", "d", 1)])
        self.deny(ROW, ROW_VALUES, [("b", "d", 1), ("c", "e", 1), ("b", "d", 2)])
        self.deny(ROW, ROW_VALUES, [("b", "d", 1), ("c", "d", 1), ("c", "e", 1), ("c", "e", 1)])

    def test_names_in_the_other_order(self):
        self.deny(POOL, VALUES, [("b", "a", 1)])
        self.deny(ROW, ROW_VALUES, [("b", "d", 1), ("d", "c", 1)])
        self.deny(ROW, ROW_VALUES, [("b", "d", 1), ("d", "b", 1)])

    def test_items_that_do_not_overlap(self):
        self.deny(POOL, VALUES, [("a", "c", 1)])
        for pair in [("b", "c"), ("b", "e"), ("d", "e"), ("b", "g"), ("e", "g")]:
            self.deny(ROW, ROW_VALUES, [(*pair, 1)])
        touching = Pool(Item("a", 0, 4), Item("b", 5, 9), Item("c", 9, 12))
        self.deny(touching, {"a": 0, "b": 6, "c": 10}, [("a", "b", 1)])
        self.accept(touching, {"a": 0, "b": 6, "c": 10}, [("b", "c", 1)], 1)

    def test_needed_exact_and_unknown_items(self):
        for pair in [("e", "f"), ("a", "f"), ("a", "e"), ("f", "g"), ("b", "x"), ("aa", "b"), ("b", "b"), ("", "b")]:
            self.deny(ROW, ROW_VALUES, [(*pair, 1)])
            self.deny(ROW, ROW_VALUES, [("b", "d", 1), (*pair, 1)])
        self.deny(POOL, {"a": 3, "b": 6, "c": 10}, [("a", "b", 1)])
        self.deny(POOL, {"a": 3, "b": 6, "c": 10}, [("b", "c", 1)])
        two = Pool(Item("a", 0, 5, price=3), Item.exact("b", 5))
        self.deny(two, {"a": 2}, [("a", "b", 1)])

    def test_all_lists_on_all_pairs_of_names(self):
        """Every list of up to two tuples over a pool is accepted exactly if it is a certificate."""
        pool = Pool(Item("a", 0, 4, price=2), Item("b", 3, 8, price=1), Item("c", 7, 9, price=2), Item.exact("d", 12))
        entries = [(*pair, amount) for pair in product("abcd", repeat=2) for amount in range(4)]
        lists = [[]] + [[entry] for entry in entries] + [list(two) for two in product(entries[::3], entries[::5])]
        for values in ({"a": 1, "b": 5, "c": 9}, {"a": 4, "b": 5, "c": 9}, {"a": 0, "b": 8, "c": 7}):
            for thing in lists:
                total = total_of(pool, values, thing)
                for bar in (total - 1, total, total + 1):
                    self.assertIs(check_certificate(pool, values, thing, bar),
                                  is_certificate(pool, values, thing) and bar <= total)

    def test_other_values_for_the_same_pool_and_list(self):
        thing = [("a", "b", 1)]
        answers = [({"a": 1, "b": 6, "c": 10}, 1), ({"a": 3, "b": 6, "c": 10}, None), ({"a": 1, "b": 8, "c": 10}, 2),
                   ({"a": 1, "b": 7, "c": 9}, None), ({"a": 1, "b": 6, "c": 9}, None), ({"a": 0, "b": 6, "c": 12}, 1)]
        for values, total in answers + answers:
            if total is None:
                self.deny(POOL, values, thing)
            else:
                self.accept(POOL, values, thing, total)

    def test_the_same_objects_with_other_contents(self):
        values, thing = dict(VALUES), [("a", "b", 1), ("b", "c", 1)]
        self.assertIs(check_certificate(POOL, values, thing, 2), True)
        thing.pop()
        self.assertIs(check_certificate(POOL, values, thing, 2), False)
        self.assertIs(check_certificate(POOL, values, thing, 1), True)
        values["a"] = 3
        self.assertIs(check_certificate(POOL, values, thing, 1), False)
        thing.clear()
        self.assertIs(check_certificate(POOL, values, thing, 4), True)
        self.assertEqual(certificate(POOL, values), [])
        values["a"] = 1
        self.assertEqual(certificate(POOL, values), [("a", "b", 1), ("b", "c", 1)])

    def test_no_list(self):
        for thing in NOT_NAMES + NAMES + [(("a", "b", 1),), {"a": ("a", "b", 1)}, {0: ("a", "b", 1)}, ("a", "b", 1),
                                          (("a", "b", 1), ("b", "c", 1))]:
            if thing != []:
                self.deny(POOL, VALUES, thing)
                self.deny(Pool(), {}, thing)

    def test_entries_of_another_form_at_each_place(self):
        wrong = NOT_NAMES + NAMES + [
            ("a", "b"), ("a", "b", 1, 1), (), ("a",), ["a", "b", 1], {"a": 1, "b": 1}, (("a", "b", 1),), (1, "a", "b"),
            ("a", 1, "b"), (("a", "b"), 1), ("ab", "c", 1), "ab1", ("a", ["b"], 1), (["a"], "b", 1), ({}, "b", 1),
            (None, "b", 1), ("a", None, 1), (0, 1, 1), (True, "b", 1), (("a",), "b", 1)]
        wrong += [("a", "b", amount) for amount in NOT_INTEGERS + [0, -1]]
        wrong += [(name, "b", 1) for name in NOT_NAMES] + [("a", name, 1) for name in NOT_NAMES]
        for part in wrong:
            for thing in ([part], [part, ("b", "c", 1)], [("b", "c", 1), part], [part, part]):
                self.deny(POOL, VALUES, thing)

    def test_many_entries(self):
        self.deny(POOL, VALUES, [("a", "b", 1)] * 1600)
        self.deny(POOL, VALUES, [("x", "y", 1)] * 1600)
        self.deny(POOL, VALUES, [None] * 4999)


class Errors(unittest.TestCase):

    def test_values_whatever_else_is_wrong(self):
        for pool, values in [(POOL, VALUES), (ROW, ROW_VALUES), (Pool(), {}), (Pool(Item.exact("a", 3)), {})]:
            for thing in wrong_values(pool, values):
                refuse(self, InvalidValues, paths, pool, thing)
                refuse(self, InvalidValues, cheapest, pool, thing)
                refuse(self, InvalidValues, certificate, pool, thing)
                for other, bar in [([], 0), ([("a", "b", 1)], 1), (None, 5), ([None], -1), (thing, HUGE)]:
                    refuse(self, InvalidValues, check_certificate, pool, thing, other, bar)

    def test_values_at_the_ends_are_no_error(self):
        for name in ROW_VALUES:
            for value in (ROW.item(name).least, ROW.item(name).greatest):
                values = {**ROW_VALUES, name: value}
                self.assertTrue(check_certificate(ROW, values, certificate(ROW, values), cheapest(ROW, values)[0]))

    def test_forty_items(self):
        pool = Pool(*forty_items())
        values = draw_values(Random(1), pool)
        for thing in wrong_values(pool, values)[::3]:
            refuse(self, InvalidValues, certificate, pool, thing)
            refuse(self, InvalidValues, check_certificate, pool, thing, [], 0)


if __name__ == "__main__":
    unittest.main()
