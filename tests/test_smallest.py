"""Tests of askranges.smallest: [21], [22], [27] and [28]."""

import unittest
from itertools import product
from random import Random

from askranges.errors import InvalidCount, InvalidValue, InvalidValues, NotDone, NothingToUndo, SessionDone
from askranges.itemtypes import Item
from askranges.minimum import cheapest_least
from askranges.pools import Pool
from askranges.sessions import LeastSession, OrderSession, Session
from askranges.smallest import SmallestSession, cheapest_smallest, smallest
from askranges.splitting import cheapest_split, is_known
from tests import model
from tests.things import (NOT_INTEGERS, Unchanged, content, draw_values, drawn_values, forty_items, refuse, row_items,
                          same, small_pools, state, wide_items, wrong_values)

POOL = Pool(Item("a", 0, 5, price=3), Item("b", 2, 9, price=2), Item("c", 4, 12, price=9))
VALUES = {"a": 1, "b": 7, "c": 5}


def large_pools():
    for items in (forty_items(), row_items(40, list(range(1, 41))), wide_items(40)):
        yield Pool(*items)


def wrong_counts(pool):
    return NOT_INTEGERS + [-1, -2, len(pool) + 1, len(pool) + 2, 10 ** 39, -(10 ** 39)]


class Example(unittest.TestCase):

    def test_example_of_28(self):
        pool = Pool(Item('a', 0, 5, price=3), Item('b', 2, 9, price=2), Item('c', 4, 12, price=9))
        values = {'a': 1, 'b': 7, 'c': 5}
        self.assertEqual([smallest(pool, values, 2), cheapest_smallest(pool, values, 2)],
                         [['a', 'c'], (11, ['b', 'c'])])
        session = SmallestSession(pool, 1)
        self.assertEqual([session.next_ask, session.payments], ['b', [('a', 'b', 2)]])
        session.answer(7)
        self.assertEqual([session.next_ask, session.payments], ['a', [('a', 'b', 2), ('a', 'c', 1)]])
        session.answer(1)
        self.assertEqual([session.is_done, session.result(), session.spent, session.bound], [True, ['a'], 5, 3])


class Smallest(unittest.TestCase):

    def check(self, pool, values):
        """Hold smallest and cheapest_smallest for all counts against the words of [27]."""
        ranges = model.ranges_of(pool)
        for count in range(len(pool) + 1):
            with Unchanged(self, pool, values):
                found = smallest(pool, values, count)
                answer = cheapest_smallest(pool, values, count)
            self.assertTrue(same(found, model.smallest_of(ranges, values, count)))
            self.assertTrue(same(answer, cheapest_split(pool, values, found)))

    def check_over_all_sets(self, pool, values):
        self.check(pool, values)
        ranges, prices = model.ranges_of(pool), model.prices_of(pool)
        for count in range(len(pool) + 1):
            price, asked = cheapest_smallest(pool, values, count)
            least_price = model.least_price_after(
                ranges, prices, values, lambda known: model.knows_some_split(known, count))
            self.assertEqual(price, least_price)
            known = pool.told({name: values[name] for name in asked})
            self.assertIs(is_known(known, smallest(pool, values, count)), True)

    def test_no_items(self):
        self.assertTrue(same(smallest(Pool(), {}, 0), []))
        self.assertTrue(same(cheapest_smallest(Pool(), {}, 0), (0, [])))

    def test_arguments_by_name(self):
        self.assertEqual(smallest(count=2, values=VALUES, pool=POOL), ["a", "c"])
        self.assertEqual(cheapest_smallest(count=2, values=VALUES, pool=POOL), (11, ["b", "c"]))

    def test_by_hand(self):
        self.assertEqual([smallest(POOL, VALUES, count) for count in range(4)],
                         [[], ["a"], ["a", "c"], ["a", "b", "c"]])
        self.assertEqual([cheapest_smallest(POOL, VALUES, count) for count in range(4)],
                         [(0, []), (3, ["a"]), (11, ["b", "c"]), (0, [])])

    def test_equal_values_go_by_the_name(self):
        pool = Pool(Item("b", 0, 5), Item.exact("c", 3), Item("a", 3, 9), Item.exact("aa", 3), Item("z", -1, 3))
        values = {"b": 3, "a": 3, "z": 3}
        self.assertEqual([smallest(pool, values, count) for count in range(6)],
                         [[], ["a"], ["a", "aa"], ["a", "aa", "b"], ["a", "aa", "b", "c"], ["a", "aa", "b", "c", "z"]])
        self.assertEqual(smallest(pool, {**values, "z": 2}, 2), ["a", "z"])

    def test_all_pools_of_three_small_items(self):
        for pool, values in small_pools(9):
            self.check_over_all_sets(pool, values)

    def test_all_sets_of_drawn_pools(self):
        for pool, values in drawn_values(1, 80, 6):
            self.check_over_all_sets(pool, values)
        for pool, values in drawn_values(2, 60, 6, most=30, widest=14):
            self.check_over_all_sets(pool, values)
        for pool, values in drawn_values(3, 40, 6, most=3, widest=12):
            self.check_over_all_sets(pool, values)

    def test_forty_items(self):
        for pool in large_pools():
            self.check(pool, draw_values(Random(1), pool))

    def test_one_smallest_item_costs_as_much_as_the_least_item(self):
        cases = list(drawn_values(4, 200, 9)) + [(pool, draw_values(Random(2), pool)) for pool in large_pools()]
        for pool, values in cases + list(small_pools(20)):
            if len(pool) > 0:
                self.assertEqual(cheapest_smallest(pool, values, 1)[0], cheapest_least(pool, values)[0])

    def test_new_lists(self):
        smallest(POOL, VALUES, 2).append("x")
        cheapest_smallest(POOL, VALUES, 2)[1].append("x")
        self.assertEqual([smallest(POOL, VALUES, 2), cheapest_smallest(POOL, VALUES, 2)],
                         [["a", "c"], (11, ["b", "c"])])

    def test_the_same_dict_with_other_values(self):
        values = dict(VALUES)
        self.assertEqual(smallest(POOL, values, 2), ["a", "c"])
        values["c"] = 8
        self.assertEqual(smallest(POOL, values, 2), ["a", "b"])
        self.assertEqual(cheapest_smallest(POOL, values, 2), (11, ["b", "c"]))
        values["c"] = 10
        self.assertEqual(cheapest_smallest(POOL, values, 2), (9, ["c"]))


class Steps(unittest.TestCase):

    def check(self, session, play):
        self.assertTrue(same(model.ranges_of(session.pool), play.ranges))
        told = (session.next_ask, session.is_done, session.asked, session.spent, session.payments, session.bound)
        self.assertTrue(same(told, play.told()))
        self.assertLessEqual(session.spent, 2 * session.bound)

    def run_through(self, pool, values, count):
        """Answer a session from values and check each step; return the session."""
        play = model.Play(model.smallest_choice(count), model.ranges_of(pool), model.prices_of(pool))
        with Unchanged(self, pool, values):
            session = SmallestSession(pool, count)
            self.check(session, play)
            while not session.is_done:
                refuse(self, NotDone, session.result)
                value = values[session.next_ask]
                play.answer(value)
                self.assertIsNone(session.answer(value))
                self.check(session, play)
        found = session.result()
        self.assertTrue(same(found, sorted(model.low_ones(play.ranges, count)[0])))
        self.assertTrue(model.knows_split(play.ranges, found))
        self.assertIs(is_known(session.pool, found), True)
        return session

    def test_arguments_by_name(self):
        session = SmallestSession(count=1, pool=POOL)
        session.answer(value=7)
        self.assertEqual([session.asked, session.next_ask], [["b"], "a"])

    def test_it_is_a_session(self):
        session = SmallestSession(POOL, 1)
        self.assertIsInstance(session, Session)
        self.assertNotIsInstance(session, (OrderSession, LeastSession))
        self.assertEqual(SmallestSession.__bases__, (Session,))

    def test_no_and_all_items(self):
        for pool in [Pool(), POOL, Pool(Item.exact("a", 3), Item.exact("b", 3))] + list(large_pools()):
            for count, names in [(0, []), (len(pool), pool.names)]:
                session = SmallestSession(pool, count)
                self.assertTrue(same(state(session), (content(pool), None, True, [], 0, [], 0)))
                self.assertTrue(same(session.result(), names))

    def test_by_hand_with_two_of_four_items(self):
        session = SmallestSession(Pool(Item("a", 0, 9, price=4), Item("b", 1, 9, price=6), Item("c", 2, 20, price=5),
                                       Item("d", 8, 30)), 2)
        self.assertEqual([session.next_ask, session.payments, session.bound], ["a", [("a", "c", 4)], 4])
        session.answer(5)
        # F is b and c, and the exact a is the next one.
        self.assertEqual([session.next_ask, session.payments, session.bound], ["c", [("a", "c", 4)], 4])
        session.answer(10)
        # F is b and a, and d is the next one.
        self.assertEqual([session.next_ask, session.payments], ["d", [("a", "c", 4), ("b", "d", 1)]])
        self.assertEqual([session.bound, session.spent], [6, 9])
        session.answer(9)
        self.assertEqual([session.next_ask, session.bound, session.spent], ["b", 6, 10])
        session.answer(9)
        self.assertEqual([session.is_done, session.bound, session.spent, session.result()], [True, 11, 16, ["a", "b"]])

    def test_by_hand_with_forced_asks(self):
        session = SmallestSession(
            Pool(Item.exact("a", 4), Item("b", 0, 5, price=2), Item("c", 1, 9, price=3), Item("d", 6, 20)), 2)
        # F is b and c, and the exact a is the next one.
        self.assertEqual([session.next_ask, session.payments, session.bound], ["c", [], 0])
        session.answer(8)
        # F is b and a, and d is the next one, which is surely behind both.
        self.assertEqual([session.is_done, session.bound, session.spent, session.result()], [True, 3, 3, ["a", "b"]])
        session.undo()
        session.answer(4)
        # F is b and a, and the exact c is the next one.
        self.assertEqual([session.next_ask, session.payments, session.bound, session.spent], ["b", [], 3, 3])
        session.answer(5)
        self.assertEqual([session.is_done, session.bound, session.spent, session.result()], [True, 5, 5, ["a", "c"]])

    def test_equal_least_values_take_an_open_item_first(self):
        pool = Pool(Item.exact("a", 3), Item("b", 3, 9), Item("c", 0, 2))
        session = SmallestSession(pool, 2)
        # F is c and b, although a comes first by its name; the exact a is the next one.
        self.assertEqual([session.next_ask, session.payments], ["b", []])
        session.answer(3)
        self.assertEqual([session.is_done, session.result()], [True, ["a", "c"]])
        session.undo()
        session.answer(4)
        self.assertEqual([session.is_done, session.result()], [True, ["a", "c"]])

    def test_equal_greatest_values_take_an_open_item_first(self):
        pool = Pool(Item.exact("a", 9), Item("b", 3, 9, price=5), Item("c", 2, 9, price=4), Item("d", 9, 20, price=3))
        session = SmallestSession(pool.without("a"), 2)
        self.assertEqual([session.next_ask, session.payments], ["d", [("b", "d", 3)]])
        session = SmallestSession(pool, 3)
        # By their least values d stands ahead of a, so that F is c, b and d.
        self.assertEqual([session.next_ask, session.payments], ["d", []])
        session = SmallestSession(pool.with_items(Item("d", 10, 20)), 3)
        self.assertEqual([session.is_done, session.result()], [True, ["a", "b", "c"]])
        session = SmallestSession(pool.with_items(Item.exact("d", 9)), 3)
        # The exact a is in F with the same greatest value, and the next one is exact, too.
        self.assertEqual([session.next_ask, session.payments], ["b", []])

    def test_some_pools(self):
        nested = [Item("abcdefghijkl"[at * 5 % 12], at, 100 - at, price=at * 7 % 12 + 1) for at in range(12)]
        exact = [Item.exact(item.name, item.least // 30) for item in row_items(10, [1] * 10)]
        for items in (row_items(10, [3, 1, 4, 1, 5, 9, 2, 6, 5, 3]), nested, exact, wide_items(10)):
            pool = Pool(*items)
            for count, seed in product(range(len(pool) + 1), range(4)):
                self.run_through(pool, draw_values(Random(seed), pool), count)

    def test_all_answers_at_an_end(self):
        for pool in (Pool(*row_items(12, [5] * 12)), Pool(*wide_items(12)), POOL):
            for end, count in product(("least", "greatest"), range(len(pool) + 1)):
                self.run_through(pool, {item.name: getattr(item, end) for item in pool.walk()}, count)

    def test_all_pools_of_three_small_items(self):
        for pool, values in small_pools(7):
            for count in range(4):
                self.run_through(pool, values, count)

    def test_drawn_pools(self):
        for pool, values in drawn_values(5, 100, 11):
            for count in range(len(pool) + 1):
                self.run_through(pool, values, count)
        for pool, values in drawn_values(6, 60, 9, most=3, widest=12):
            for count in range(len(pool) + 1):
                self.run_through(pool, values, count)

    def test_forty_items(self):
        for pool in large_pools():
            for count in (0, 1, 2, 13, 20, 39, 40):
                self.run_through(pool, draw_values(Random(count), pool), count)

    def check_facts(self, pool, values):
        """[6], [28]: what a session spends at most, and what it finds."""
        ranges, prices = model.ranges_of(pool), model.prices_of(pool)
        truth = model.truth_of(ranges, values)
        for count in range(len(pool) + 1):
            least_price = model.least_price_after(
                ranges, prices, values, lambda known: model.knows_some_split(known, count))
            session = self.run_through(pool, values, count)
            self.assertLessEqual(session.bound, least_price)
            self.assertLessEqual(session.spent, 2 * session.bound)
            self.assertEqual(sorted(truth[name] for name in session.result()), sorted(truth.values())[:count])
            self.assertEqual(len(set(session.asked)), len(session.asked))

    def test_facts_of_pools_of_three_small_items(self):
        for pool, values in small_pools(8):
            self.check_facts(pool, values)

    def test_facts_of_drawn_pools(self):
        for pool, values in drawn_values(7, 80, 6):
            self.check_facts(pool, values)
        for pool, values in drawn_values(8, 40, 6, most=3, widest=12):
            self.check_facts(pool, values)
        for pool, values in drawn_values(9, 40, 6, most=30, widest=14):
            self.check_facts(pool, values)


class UndoAndCopy(unittest.TestCase):

    def test_undo_restores_each_state_and_copies_are_independent(self):
        for pool, values in list(drawn_values(10, 30, 9)) + [(POOL, VALUES)]:
            for count in range(len(pool) + 1):
                session = SmallestSession(pool, count)
                states = [state(session)]
                while not session.is_done:
                    copied = session.copy()
                    self.assertIs(copied.__class__, SmallestSession)
                    session.answer(values[session.next_ask])
                    self.assertTrue(same(state(copied), states[-1]))
                    copied.answer(values[copied.next_ask])
                    self.assertTrue(same(state(copied), state(session)))
                    copied.undo()
                    states.append(state(session))
                copied = session.copy()
                self.assertEqual(copied.result(), session.result())
                while session.asked:
                    self.assertTrue(same(state(session), states.pop()))
                    session.undo()
                self.assertTrue(same([state(session)], states))
                self.assertIs(copied.is_done, True)
                refuse(self, NothingToUndo, session.undo)

    def test_a_copy_keeps_the_count(self):
        for count in range(4):
            session = SmallestSession(POOL, count).copy()
            while not session.is_done:
                session.answer(VALUES[session.next_ask])
                session = session.copy()
            self.assertEqual(session.result(), smallest(POOL, VALUES, count))

    def test_results_are_new_lists(self):
        session = SmallestSession(POOL, 3)
        session.result().append("x")
        session.asked.append("x")
        session.payments.append("x")
        self.assertEqual([session.result(), session.asked, session.payments], [["a", "b", "c"], [], []])

    def test_the_pool_that_was_passed_stays(self):
        with Unchanged(self, POOL):
            session = SmallestSession(POOL, 1)
            session.answer(7)
            session.answer(1)
            session.undo()


class Errors(unittest.TestCase):

    def test_counts(self):
        for pool, values in [(POOL, VALUES), (Pool(), {}), (Pool(Item.exact("a", 3)), {})]:
            for thing in wrong_counts(pool):
                refuse(self, InvalidCount, smallest, pool, values, thing)
                refuse(self, InvalidCount, cheapest_smallest, pool, values, thing)
                refuse(self, InvalidCount, SmallestSession, pool, thing)

    def test_bools_are_no_counts(self):
        for thing in (True, False):
            refuse(self, InvalidCount, smallest, POOL, VALUES, thing)
            refuse(self, InvalidCount, SmallestSession, POOL, thing)

    def test_values_whatever_the_count_is(self):
        for pool, values in [(POOL, VALUES), (Pool(), {}), (Pool(Item.exact("a", 3)), {})]:
            for thing in wrong_values(pool, values):
                for count in (0, len(pool), -1, len(pool) + 1, True, None, "1", []):
                    refuse(self, InvalidValues, smallest, pool, thing, count)
                    refuse(self, InvalidValues, cheapest_smallest, pool, thing, count)

    def test_answers(self):
        session = SmallestSession(POOL, 1)
        before = state(session)
        for value in NOT_INTEGERS + [1, 10, 10 ** 39]:
            self.assertEqual(refuse(self, InvalidValue, session.answer, value).which, "b")
        self.assertTrue(same(state(session), before))
        session.answer(7)
        session.answer(1)
        before = state(session)
        for value in NOT_INTEGERS + [1, 5, 10 ** 39]:
            refuse(self, SessionDone, session.answer, value)
        self.assertTrue(same(state(session), before))
        for count in (0, 3):
            refuse(self, SessionDone, SmallestSession(POOL, count).answer, 3)

    def test_result_and_undo(self):
        session = SmallestSession(POOL, 2)
        refuse(self, NotDone, session.result)
        refuse(self, NothingToUndo, session.undo)
        session.answer(7)
        refuse(self, NotDone, session.result)


if __name__ == "__main__":
    unittest.main()
