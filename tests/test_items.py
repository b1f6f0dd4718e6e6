"""Tests of askranges.itemtypes: [3], [4] and [7]."""

import unittest

from askranges.errors import InvalidItem, InvalidValue
from askranges.itemtypes import Item
from askranges.pools import Pool
from tests.things import NAMES, NOT_INTEGERS, NOT_NAMES, Unchanged, parts, small_items

HUGE = 999999999999
PRINTABLE = [chr(code) for code in range(32, 127)] + ["\t", "\n"]


class Example(unittest.TestCase):

    def test_example_of_7(self):
        item = Item('a', 0, 5, price=3)
        self.assertEqual([item.is_exact, item.told(4).value, item.told(4).price], [False, 4, 0])
        self.assertEqual(
            [item.is_loose_with(Item.exact('b', 5)), item.is_loose_with(Item.exact('b', 6))], [True, False])
        with self.assertRaises(InvalidValue) as caught:
            item.told(6)
        self.assertEqual(caught.exception.which, 'a')


class Properties(unittest.TestCase):

    def check_open(self, item, name, least, greatest, price):
        self.assertEqual(parts(item), (name, least, greatest, price, False, None))
        self.assertIs(item.is_exact, False)
        self.assertIsNone(item.value)

    def check_exact(self, item, name, value):
        self.assertEqual(parts(item), (name, value, value, 0, True, value))
        self.assertIs(item.is_exact, True)
        self.assertIsNotNone(item.value)

    def test_open(self):
        ranges = [(0, 5), (0, 1), (-1, 0), (-5, 5), (-9, -2), (-HUGE, HUGE), (HUGE - 1, HUGE), (-HUGE, 1 - HUGE)]
        for least, greatest in ranges:
            for name in NAMES:
                self.check_open(Item(name, least, greatest), name, least, greatest, 1)
                for price in (1, 2, 500, 998, 999):
                    self.check_open(Item(name, least, greatest, price=price), name, least, greatest, price)

    def test_exact(self):
        for value in (0, 1, -1, 7, -12, HUGE, -HUGE):
            for name in NAMES:
                self.check_exact(Item(name, value, value), name, value)
                self.check_exact(Item(name, value, value, price=1), name, value)
                self.check_exact(Item(name, value, value, price=999), name, value)
                self.check_exact(Item.exact(name, value), name, value)

    def test_arguments_by_name(self):
        self.check_open(Item(name="a", least=2, greatest=4, price=3), "a", 2, 4, 3)
        self.check_open(Item(price=3, greatest=4, least=2, name="a"), "a", 2, 4, 3)
        self.check_open(Item("a", greatest=4, least=2), "a", 2, 4, 1)
        self.check_exact(Item.exact(value=3, name="b"), "b", 3)
        self.check_exact(Item.exact("b", value=3), "b", 3)
        self.assertIs(Item.is_name(thing="b"), True)
        item = Item("a", 2, 4)
        self.check_exact(item.told(value=3), "a", 3)
        self.assertIs(item.is_surely_before(other=Item("b", 5, 6)), True)
        self.assertIs(item.is_loose_with(other=Item("b", 5, 6)), False)

    def test_price_only_by_name(self):
        with self.assertRaises(TypeError):
            Item("a", 0, 5, 3)

    def test_most(self):
        self.assertEqual(Item.MOST, 999)
        self.assertEqual(Item("a", 0, 5).MOST, 999)

    def test_exact_and_is_name_off_an_object(self):
        item = Item("a", 0, 5, price=3)
        self.check_exact(item.exact("b", 7), "b", 7)
        self.assertIs(item.is_name("b"), True)
        self.assertIs(item.is_name("B"), False)

    def test_properties_are_not_assigned(self):
        for item in (Item("a", 0, 5, price=3), Item.exact("a", 4)):
            before = parts(item)
            for name in ("name", "least", "greatest", "price", "is_exact", "value"):
                with self.assertRaises(AttributeError):
                    setattr(item, name, 1)
            self.assertEqual(parts(item), before)

    def test_items_do_not_share_their_parts(self):
        first, second = Item("a", 0, 5, price=3), Item("b", 1, 1)
        self.check_open(first, "a", 0, 5, 3)
        self.check_exact(second, "b", 1)


class Names(unittest.TestCase):

    def test_names(self):
        for name in NAMES + [letter * times for letter in "abmyz" for times in range(1, 9)]:
            self.assertIs(Item.is_name(name), True)

    def test_other_objects(self):
        for thing in NOT_NAMES:
            with Unchanged(self, thing):
                self.assertIs(Item.is_name(thing), False)

    def test_every_character_at_every_place(self):
        for sign in PRINTABLE:
            is_letter = sign in "abcdefghijklmnopqrstuvwxyz"
            for word in (sign, "a" + sign, sign + "z", "k" + sign + "k", "abcdefg" + sign, sign * 8):
                self.assertIs(Item.is_name(word), is_letter)
            self.assertIs(Item.is_name("abcdefgh" + sign), False)

    def test_lengths(self):
        for length in range(20):
            self.assertIs(Item.is_name("q" * length), 1 <= length <= 8)


class InvalidItems(unittest.TestCase):

    def refuse(self, *args, **more):
        with self.subTest(args=repr(args)[:80], more=repr(more)[:80]):
            with Unchanged(self, args, more):
                with self.assertRaises(InvalidItem):
                    Item(*args, **more)

    def refuse_exact(self, *args):
        with self.subTest(args=repr(args)[:80]):
            with Unchanged(self, args):
                with self.assertRaises(InvalidItem):
                    Item.exact(*args)

    def test_names(self):
        for thing in NOT_NAMES:
            self.refuse(thing, 0, 5)
            self.refuse(thing, 5, 5)
            self.refuse(thing, 0, 5, price=3)
            self.refuse_exact(thing, 5)

    def test_ends_of_other_kinds(self):
        for thing in NOT_INTEGERS:
            self.refuse("a", thing, 5)
            self.refuse("a", 0, thing)
            self.refuse("a", thing, thing)
            self.refuse("a", -HUGE, thing)
            self.refuse("a", thing, HUGE, price=3)
            self.refuse_exact("a", thing)

    def test_bools_as_ends(self):
        self.refuse("a", False, True)
        self.refuse("a", 0, True)
        self.refuse("a", False, 1)
        self.refuse("a", 1, True)
        self.refuse("a", True, 1)
        self.refuse("a", 0, False)

    def test_ends_in_the_wrong_order(self):
        for least, greatest in [(1, 0), (5, 4), (0, -1), (-4, -5), (HUGE, -HUGE), (HUGE, HUGE - 1), (10, 9)]:
            self.refuse("a", least, greatest)
            self.refuse("a", least, greatest, price=3)

    def test_prices_of_other_kinds(self):
        for thing in NOT_INTEGERS:
            self.refuse("a", 0, 5, price=thing)
            self.refuse("a", 5, 5, price=thing)

    def test_prices_out_of_bounds(self):
        for price in (0, -1, -999, 1000, 1001, HUGE, 10 ** 39, -(10 ** 39)):
            self.refuse("a", 0, 5, price=price)
            self.refuse("a", 5, 5, price=price)

    def test_several_faults(self):
        self.refuse(None, None, None, price=None)
        self.refuse("A", 5, 0, price=0)
        self.refuse([], {}, (), price=[])
        self.refuse_exact({}, [])

    def test_next_to_the_faults(self):
        for price in (1, 999):
            self.assertEqual(Item("a", 0, 1, price=price).price, price)
            self.assertEqual(Item("a", 1, 1, price=price).price, 0)


class Told(unittest.TestCase):

    def refuse(self, item, thing):
        before = parts(item)
        with self.subTest(item=before, thing=repr(thing)[:80]):
            with Unchanged(self, thing):
                with self.assertRaises(InvalidValue) as caught:
                    item.told(thing)
            self.assertEqual(caught.exception.which, item.name)
            self.assertEqual(parts(item), before)

    def accept(self, item, value):
        before = parts(item)
        told = item.told(value)
        self.assertEqual(parts(told), (item.name, value, value, 0, True, value))
        self.assertEqual(told, Item.exact(item.name, value))
        self.assertEqual(parts(item), before)

    def test_open(self):
        for least, greatest in [(0, 5), (0, 1), (-3, 3), (-9, -7), (-HUGE, 1 - HUGE), (HUGE - 3, HUGE)]:
            for item in (Item("abc", least, greatest), Item("zz", least, greatest, price=999)):
                for value in (least, least + 1, greatest - 1, greatest):
                    self.accept(item, value)
                for value in (least - 1, least - 2, greatest + 1, greatest + 2):
                    self.refuse(item, value)

    def test_every_value_inside(self):
        item = Item("a", -20, 20, price=7)
        for value in range(-20, 21):
            self.accept(item, value)

    def test_exact(self):
        for value in (0, 1, -7, HUGE, -HUGE):
            item = Item.exact("abc", value)
            self.accept(item, value)
            self.refuse(item, value - 1)
            self.refuse(item, value + 1)
            self.refuse(item, -value - 1)

    def test_other_kinds(self):
        for item in (Item("a", -10, 10), Item("self", 0, 1, price=9), Item.exact("c", 1), Item.exact("d", 0)):
            for thing in NOT_INTEGERS + [10 ** 39, -(10 ** 39)]:
                self.refuse(item, thing)


class Pairs(unittest.TestCase):

    def check(self, first, second):
        """Hold both methods against what the words of [4] say of the possible values."""
        one = range(first.least, first.greatest + 1)
        two = range(second.least, second.greatest + 1)
        before = max(one) < min(two)
        after = max(two) < min(one)
        settled = before or after or (len(one) == 1 and len(two) == 1)
        self.assertIs(first.is_surely_before(second), before)
        self.assertIs(second.is_surely_before(first), after)
        self.assertIs(first.is_loose_with(second), not settled)
        self.assertIs(second.is_loose_with(first), not settled)

    def test_all_small_items(self):
        for first in small_items("b"):
            for second in small_items("a") + small_items("c", price=5) + small_items("b") + small_items("b", price=3):
                self.check(first, second)

    def test_negative_and_large(self):
        ends = [-HUGE, -11, -10, -9, 9, 10, 11, HUGE]
        for first in [Item("a", low, high) for low in ends for high in ends if low <= high]:
            for low in ends:
                for high in ends:
                    if low <= high:
                        second = Item("b", low, high)
                        self.assertIs(first.is_surely_before(second), first.greatest < low)
                        self.assertIs(first.is_loose_with(second), not (
                            first.greatest < low or high < first.least or (low == high and first.is_exact)))

    def test_some_by_hand(self):
        item = Item("a", 2, 6)
        rows = [
            (Item("b", 6, 9), False, False, True), (Item("b", 7, 9), True, False, False),
            (Item("b", 0, 2), False, False, True), (Item("b", 0, 1), False, True, False),
            (Item("b", 3, 5), False, False, True), (Item("b", 0, 9), False, False, True),
            (Item("b", 2, 6), False, False, True), (Item.exact("b", 1), False, True, False),
            (Item.exact("b", 2), False, False, True), (Item.exact("b", 4), False, False, True),
            (Item.exact("b", 6), False, False, True), (Item.exact("b", 7), True, False, False),
        ]
        for other, before, after, loose in rows:
            self.assertIs(item.is_surely_before(other), before)
            self.assertIs(other.is_surely_before(item), after)
            self.assertIs(item.is_loose_with(other), loose)
            self.assertIs(other.is_loose_with(item), loose)

    def test_exact_ones(self):
        four, same, five = Item.exact("a", 4), Item.exact("b", 4), Item.exact("c", 5)
        self.assertIs(four.is_loose_with(same), False)
        self.assertIs(four.is_surely_before(same), False)
        self.assertIs(same.is_surely_before(four), False)
        self.assertIs(four.is_surely_before(five), True)
        self.assertIs(five.is_surely_before(four), False)
        self.assertIs(four.is_loose_with(five), False)

    def test_the_same_item(self):
        item, exact = Item("a", 0, 5), Item.exact("a", 3)
        self.assertIs(item.is_loose_with(item), True)
        self.assertIs(item.is_surely_before(item), False)
        self.assertIs(exact.is_loose_with(exact), False)
        self.assertIs(exact.is_surely_before(exact), False)


class Equality(unittest.TestCase):

    def test_all_small_items(self):
        items = [item for name in ("a", "b", "ab") for price in (1, 2, 999) for item in small_items(name, 3, price)]
        for first in items:
            for second in items:
                self.assertIs(first == second, parts(first) == parts(second))

    def test_each_part_counts(self):
        item = Item("a", 0, 5, price=3)
        self.assertIs(item == Item("a", 0, 5, price=3), True)
        for other in (Item("b", 0, 5, price=3), Item("a", 1, 5, price=3), Item("a", 0, 6, price=3),
                      Item("a", 0, 5, price=2), Item("a", 0, 5), Item.exact("a", 0), Item.exact("a", 5)):
            self.assertIs(item == other, False)
            self.assertIs(other == item, False)
            self.assertIs(item != other, True)
        self.assertIs(item != Item("a", 0, 5, price=3), False)

    def test_exact_ones(self):
        self.assertIs(Item("a", 5, 5, price=3) == Item.exact("a", 5), True)
        self.assertIs(Item("a", 5, 5, price=3) == Item("a", 5, 5, price=8), True)
        self.assertIs(Item("a", 0, 9, price=3).told(5) == Item.exact("a", 5), True)
        self.assertIs(Item.exact("a", 5) == Item.exact("a", 6), False)
        self.assertIs(Item.exact("a", 5) == Item.exact("b", 5), False)
        self.assertIs(Item.exact("a", 5) == Item.exact("a", -5), False)

    def test_other_kinds(self):
        for item in (Item("a", 0, 5), Item.exact("a", 5)):
            others = NOT_NAMES + ["a", "a 5", "a 0 5 1", ("a", 0, 5, 1), ["a", 0, 5, 1], Pool(), Pool(item)]
            for other in others:
                with Unchanged(self, *[other] if not isinstance(other, Pool) else []):
                    self.assertIs(item == other, False)
                    self.assertIs(other == item, False)


if __name__ == "__main__":
    unittest.main()
