"""Tests of askranges.traps: [5] and [23]."""

import unittest
from inspect import signature
from itertools import product
from random import Random

from askranges.errors import InvalidLimit, InvalidValues
from askranges.itemtypes import Item
from askranges.pools import Pool
from askranges.sessions import LeastSession, OrderSession, Session
from askranges.smallest import SmallestSession
from askranges.traps import price_of, trap
from tests import model
from tests.things import (NOT_INTEGERS, Unchanged, draw_values, drawn_values, forty_items, parts, refuse, row_items,
                          same, small_items, wide_items, wrong_values)

POOL = Pool(Item("a", 0, 5, price=3), Item("b", 2, 9, price=2), Item("c", 7, 12))
VALUES = {"a": 1, "b": 3, "c": 10}
HUGE = 999999999999


def is_trap(first, second, one, two):
    """[23]: asking the first item alone does not settle them, but asking the second one alone does."""
    told_first = Pool(Item.exact("a", one), Item("b", second.least, second.greatest))
    told_second = Pool(Item("a", first.least, first.greatest), Item.exact("b", two))
    return model.loose_of(model.ranges_of(told_first)) != [] and model.loose_of(model.ranges_of(told_second)) == []


def smallest_trap(first, second):
    for one in range(first.least, first.greatest + 1):
        for two in range(second.least, second.greatest + 1):
            if is_trap(first, second, one, two):
                return (one, two)
    return None


def one_of_each(pool):
    """A session of each kind."""
    return [Session(pool), OrderSession(pool), LeastSession(pool)] + [
        SmallestSession(pool, count) for count in range(len(pool) + 1)]


class Example(unittest.TestCase):

    def test_example_of_23(self):
        self.assertEqual(trap(Item('a', 0, 5), Item('b', 2, 9)), (2, 6))
        self.assertIs(trap(Item('a', 0, 9), Item('b', 2, 5)) is None, True)


class Trap(unittest.TestCase):

    def check(self, first, second, expected):
        before = [parts(first), parts(second)]
        self.assertTrue(same(trap(first, second), expected))
        self.assertEqual([parts(first), parts(second)], before)

    def test_all_pairs_of_small_ranges(self):
        ranges = [item for item in small_items("b", 6) if not item.is_exact]
        for first, second in product(ranges, ranges):
            self.check(first, second, smallest_trap(first, second))

    def test_below_zero(self):
        ranges = [Item("a", item.least - 5, item.greatest - 3) for item in small_items("a", 4)]
        for first, second in product(ranges, ranges):
            self.check(first, second, smallest_trap(first, second))

    def test_names_and_prices_do_not_matter(self):
        for names in product(["a", "b", "zzzzzzzz"], repeat=2):
            for prices in product([1, 7, 999], repeat=2):
                first = Item(names[0], 0, 5, price=prices[0])
                self.check(first, Item(names[1], 2, 9, price=prices[1]), (2, 6))
                self.check(first, Item(names[1], -3, 2, price=prices[1]), (0, -3))

    def test_by_hand(self):
        rows = [((0, 5), (2, 9), (2, 6)), ((2, 9), (0, 5), (2, 0)), ((0, 9), (2, 5), None), ((2, 5), (0, 9), (2, 0)),
                ((0, 5), (0, 5), None), ((0, 5), (0, 9), (0, 6)), ((0, 9), (0, 5), None), ((0, 9), (4, 9), None),
                ((4, 9), (0, 9), (4, 0)), ((0, 5), (5, 9), (5, 6)), ((5, 9), (0, 5), (5, 0)), ((0, 5), (6, 9), None),
                ((6, 9), (0, 5), None), ((0, 1), (1, 2), (1, 2)), ((1, 2), (0, 1), (1, 0))]
        for one, two, expected in rows:
            self.check(Item("a", *one), Item("b", *two), expected)

    def test_the_same_item_twice(self):
        item = Item("a", 0, 5)
        self.check(item, item, None)

    def test_wide_ranges(self):
        self.check(Item("a", -HUGE, 0), Item("b", -5, HUGE), (-5, 1))
        self.check(Item("a", -5, HUGE), Item("b", -HUGE, 0), (-5, -HUGE))
        self.check(Item("a", -HUGE, HUGE), Item("b", -5, 5), None)
        self.check(Item("a", -5, 5), Item("b", -HUGE, HUGE), (-5, -HUGE))
        self.check(Item("a", -HUGE, HUGE - 1), Item("b", -HUGE, HUGE), (-HUGE, HUGE))

    def test_arguments_by_name(self):
        self.assertEqual(trap(first=Item("a", 0, 5), second=Item("b", 2, 9)), (2, 6))
        self.assertEqual(trap(second=Item("b", 2, 9), first=Item("a", 0, 5)), (2, 6))


class PriceOf(unittest.TestCase):

    def check(self, values, session, *limits):
        """Hold price_of against a session that is answered by hand."""
        limit = limits[0] if limits else 1000
        played = session.copy()
        for _ in range(limit):
            if played.is_done:
                break
            played.answer(values[played.next_ask])
        with Unchanged(self, values, session):
            self.assertTrue(same(price_of(values, session, *limits), played.spent))

    def test_by_hand(self):
        session = OrderSession(POOL)
        self.assertEqual([price_of(VALUES, session, limit) for limit in range(5)], [0, 2, 5, 5, 5])
        self.assertEqual(price_of(VALUES, session), 5)
        session.answer(3)
        values = {"a": 1, "c": 10}
        self.assertEqual([price_of(values, session, limit) for limit in range(4)], [2, 5, 5, 5])
        self.assertEqual([session.asked, session.next_ask], [["b"], "a"])
        session.answer(1)
        self.assertEqual([price_of({"c": 10}, session, limit) for limit in (0, 1, 1000)], [5, 5, 5])

    def test_arguments_by_name(self):
        self.assertEqual(price_of(session=OrderSession(POOL), values=VALUES), 5)
        self.assertEqual(price_of(limit=1, session=OrderSession(POOL), values=VALUES), 2)
        self.assertEqual(price_of(VALUES, OrderSession(POOL), limit=0), 0)

    def test_the_limit_when_none_is_passed(self):
        # No pool has so many items that a session could reach it.
        self.assertEqual(signature(price_of).parameters["limit"].default, 1000)

    def test_sessions_of_every_kind(self):
        for pool, values in list(drawn_values(1, 40, 7)) + [(POOL, VALUES)]:
            for session in one_of_each(pool):
                self.check(values, session)
                for limit in range(len(pool) + 2):
                    self.check(values, session, limit)

    def test_sessions_with_answers(self):
        for pool, values in list(drawn_values(2, 25, 7)) + [(POOL, VALUES)]:
            for session in one_of_each(pool):
                left = dict(values)
                while not session.is_done:
                    for limit in (0, 1, 2, 10 ** 9):
                        self.check(left, session, limit)
                    asked = session.next_ask
                    session.answer(left.pop(asked))
                self.check(left, session)

    def test_the_same_session_again(self):
        session = LeastSession(POOL)
        for values, price in [(VALUES, 5), ({"a": 1, "b": 6, "c": 10}, 2), (VALUES, 5)]:
            self.assertEqual(price_of(values, session), price)

    def test_the_same_dict_with_other_values(self):
        values, session = dict(VALUES), LeastSession(POOL)
        self.assertEqual(price_of(values, session), 5)
        values["b"] = 6
        self.assertEqual(price_of(values, session), 2)
        values["b"] = 10
        refuse(self, InvalidValues, price_of, values, session)

    def test_forty_items(self):
        for items in (forty_items(), row_items(40, list(range(1, 41))), wide_items(40)):
            pool = Pool(*items)
            values = draw_values(Random(1), pool)
            for session in (OrderSession(pool), LeastSession(pool), SmallestSession(pool, 20)):
                for limit in (0, 1, 7, 1000):
                    self.check(values, session, limit)

    def test_no_items(self):
        for session in one_of_each(Pool()) + one_of_each(Pool(Item.exact("a", 3))):
            self.assertTrue(same(price_of({}, session), 0))
            self.assertTrue(same(price_of({}, session, 0), 0))


class Errors(unittest.TestCase):

    def test_values(self):
        for pool, values in [(POOL, VALUES), (Pool(), {}), (Pool(Item.exact("a", 3)), {})]:
            for session in one_of_each(pool):
                for thing in wrong_values(pool, values):
                    refuse(self, InvalidValues, price_of, thing, session)

    def test_values_that_were_answered(self):
        session = OrderSession(POOL)
        session.answer(3)
        values = {"a": 1, "c": 10}
        for value in (3, 4, None):
            refuse(self, InvalidValues, price_of, {**values, "b": value}, session)
        for thing in wrong_values(session.pool, values):
            refuse(self, InvalidValues, price_of, thing, session, 0)
        session.answer(1)
        self.assertTrue(session.is_done)
        for thing in ({}, {"a": 1, "c": 10}, VALUES, {"c": 13}):
            refuse(self, InvalidValues, price_of, thing, session)

    def test_limits(self):
        for session in one_of_each(POOL):
            for limit in NOT_INTEGERS + [-1, -2, -(10 ** 39)]:
                refuse(self, InvalidLimit, price_of, VALUES, session, limit)
        done = OrderSession(Pool())
        for limit in NOT_INTEGERS + [-1]:
            refuse(self, InvalidLimit, price_of, {}, done, limit)
        self.assertEqual(price_of(VALUES, OrderSession(POOL), 10 ** 39), 5)

    def test_values_come_ahead_of_the_limit(self):
        for thing in wrong_values(POOL, VALUES):
            for limit in (-1, None, True, "1", []):
                refuse(self, InvalidValues, price_of, thing, OrderSession(POOL), limit)


if __name__ == "__main__":
    unittest.main()
