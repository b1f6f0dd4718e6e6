"""Tests of askranges.sessions: [6], [21] and [22]."""

import unittest
from itertools import product
from random import Random

from askranges.errors import InvalidValue, NotDone, NothingToUndo, SessionDone
from askranges.itemtypes import Item
from askranges.minimum import sure_least
from askranges.pools import Pool
from askranges.sessions import LeastSession, OrderSession, Session
from askranges.sorting import sure_order
from tests import model
from tests.things import (NAMES, NOT_INTEGERS, Unchanged, content, draw_values, drawn_values, forty_items, refuse,
                          row_items, same, small_pools, state, wide_items)

POOL = Pool(Item("a", 0, 5, price=3), Item("b", 2, 9, price=2), Item("c", 7, 12))
CHOICES = {"OrderSession": model.order_choice, "LeastSession": model.least_choice, "Session": lambda ranges: []}
KINDS = (OrderSession, LeastSession)


def nested_items(count):
    """Items of which each lies inside the one before, with prices that go up and down."""
    return [Item("abcdefghijkl"[at * 5 % 12], at, 100 - at, price=at * 7 % 12 + 1) for at in range(count)]


def some_pools():
    """Pools of many kinds, by what they are."""
    random = Random(20)
    row = row_items(18, [random.randint(1, 20) for _ in range(18)])
    return {
        "no items": Pool(), "one": Pool(Item("a", 0, 5, price=4)), "one exact": Pool(Item.exact("a", 3)),
        "two": Pool(Item("b", 0, 5, price=4), Item("a", 4, 9, price=2)),
        "two apart": Pool(Item("b", 0, 5), Item("a", 6, 9)),
        "row": Pool(*row), "equal prices": Pool(*[Item(item.name, item.least, item.greatest, price=5) for item in row]),
        "inside": Pool(*nested_items(12)),
        "exact": Pool(*[Item.exact(item.name, item.least // 30) for item in row]),
        "mixed": POOL.with_items(Item.exact("d", 4), Item.exact("e", 8), Item.exact("f", 8), Item("g", 8, 9, price=7)),
    }


class SessionTest(unittest.TestCase):

    def check(self, session, play):
        """Hold all properties against a play that was told from the words of the document."""
        self.assertTrue(same(model.ranges_of(session.pool), play.ranges))
        told = (session.next_ask, session.is_done, session.asked, session.spent, session.payments, session.bound)
        self.assertTrue(same(told, play.told()))
        # A property that is read twice returns the same.
        self.assertTrue(same(state(session), state(session)))

    def check_result(self, session):
        if not session.is_done:
            refuse(self, NotDone, session.result)
        elif session.__class__ is OrderSession:
            order = model.sure_order_of(model.ranges_of(session.pool))
            self.assertTrue(same(session.result(), order))
        elif session.__class__ is LeastSession:
            self.assertTrue(same(session.result(), model.sure_least_of(model.ranges_of(session.pool))))
        else:
            self.assertIsNone(session.result())

    def run_through(self, kind, pool, values):
        """Answer a session from values and check each step; return the session."""
        play = model.Play(CHOICES[kind.__name__], model.ranges_of(pool), model.prices_of(pool))
        with Unchanged(self, pool, values):
            session = kind(pool)
            self.check(session, play)
            while not session.is_done:
                self.check_result(session)
                value = values[session.next_ask]
                play.answer(value)
                self.assertIsNone(session.answer(value))
                self.check(session, play)
            self.check_result(session)
        return session


class Example(unittest.TestCase):

    def test_example_of_22(self):
        session = OrderSession(
            Pool(Item('a', 0, 5, price=3), Item('b', 2, 9, price=2), Item('c', 7, 12)))
        self.assertEqual([session.next_ask, session.payments], ['b', [('a', 'b', 2)]])
        session.answer(3)
        self.assertEqual([session.next_ask, session.spent, session.bound], ['a', 2, 2])
        session.answer(1)
        self.assertEqual([session.is_done, session.result(), session.spent, session.bound],
                         [True, ['a', 'b', 'c'], 5, 3])


class ByHand(unittest.TestCase):

    def test_arguments_by_name(self):
        for kind in KINDS:
            session = kind(pool=POOL)
            session.answer(value=3)
            self.assertEqual([session.asked, session.pool.item("b").value], [["b"], 3])
        self.assertEqual(content(Session(pool=POOL).pool), content(POOL))

    def test_order_session_with_pairs_and_equal_prices(self):
        session = OrderSession(Pool(Item("a", 0, 5, price=2), Item("b", 3, 9, price=2), Item("c", 8, 12, price=4)))
        self.assertEqual([session.next_ask, session.payments, session.bound], ["a", [("a", "b", 2)], 2])
        session.answer(1)
        # What is left of b is 0, so that its next payment is not one.
        self.assertEqual([session.next_ask, session.payments, session.bound], ["b", [("a", "b", 2)], 2])
        session.answer(6)
        self.assertEqual([session.is_done, session.spent, session.bound], [True, 4, 2])
        self.assertEqual([session.result(), session.asked], [["a", "b", "c"], ["a", "b"]])

    def test_order_session_with_several_forced_asks(self):
        session = OrderSession(Pool(Item("d", 0, 9, price=5), Item("b", 3, 9, price=4), Item.exact("a", 4),
                                    Item("c", 8, 20, price=3), Item("e", 30, 40)))
        self.assertEqual([session.next_ask, session.payments, session.bound], ["b", [], 0])
        session.answer(9)
        self.assertEqual([session.next_ask, session.payments, session.bound, session.spent], ["c", [], 4, 4])
        session.answer(8)
        self.assertEqual([session.next_ask, session.payments, session.bound, session.spent], ["d", [], 7, 7])
        session.answer(8)
        self.assertEqual([session.is_done, session.bound, session.spent], [True, 12, 12])
        self.assertEqual(session.asked, ["b", "c", "d"])
        self.assertEqual(session.result(), ["a", "c", "d", "b", "e"])

    def test_order_session_that_is_forced_behind_a_payment(self):
        session = OrderSession(Pool(Item("a", 0, 9, price=7), Item("b", 4, 12, price=3), Item("c", 8, 20, price=6)))
        self.assertEqual([session.next_ask, session.payments], ["b", [("a", "b", 3)]])
        session.answer(8)
        self.assertEqual([session.next_ask, session.payments, session.bound], ["a", [("a", "b", 3)], 3])
        session.answer(2)
        self.assertEqual([session.next_ask, session.bound, session.spent], ["c", 7, 10])
        session.answer(20)
        self.assertEqual([session.is_done, session.bound, session.spent, session.payments],
                         [True, 13, 16, [("a", "b", 3)]])

    def test_order_session_takes_the_first_pair_by_the_names(self):
        session = OrderSession(Pool(Item("d", 0, 5, price=9), Item("a", 4, 9, price=8), Item("b", 8, 12, price=7),
                                    Item("c", 11, 20, price=6)))
        self.assertEqual([session.next_ask, session.payments], ["b", [("a", "b", 7)]])
        session.answer(10)
        self.assertEqual([session.next_ask, session.payments], ["a", [("a", "b", 7), ("a", "d", 1)]])
        session.answer(6)
        self.assertEqual([session.is_done, session.result(), session.bound], [True, ["d", "a", "b", "c"], 8])

    def test_least_session_with_a_pair(self):
        session = LeastSession(Pool(Item("c", 0, 9, price=5), Item("b", 1, 9, price=3), Item("a", 2, 9, price=4)))
        self.assertEqual([session.next_ask, session.payments], ["b", [("b", "c", 3)]])
        session.answer(5)
        self.assertEqual([session.next_ask, session.payments], ["c", [("b", "c", 3), ("a", "c", 2)]])
        session.answer(4)
        self.assertEqual([session.next_ask, session.payments], ["a", [("b", "c", 3), ("a", "c", 2)]])
        self.assertEqual([session.bound, session.spent], [5, 8])
        session.answer(9)
        self.assertEqual([session.is_done, session.result(), session.spent, session.bound], [True, "c", 12, 7])

    def test_least_session_with_an_exact_least_item(self):
        session = LeastSession(Pool(Item.exact("d", 3), Item("c", 3, 9, price=4), Item("b", 3, 5, price=6),
                                    Item("a", 4, 9), Item.exact("e", 3)))
        self.assertEqual([session.next_ask, session.payments, session.bound], ["b", [], 0])
        session.answer(3)
        self.assertEqual([session.next_ask, session.payments, session.bound], ["c", [], 6])
        session.answer(7)
        self.assertEqual([session.is_done, session.result(), session.spent, session.bound], [True, "b", 10, 10])

    def test_least_session_with_an_exact_second_item(self):
        session = LeastSession(Pool(Item("c", 0, 9, price=4), Item.exact("b", 2), Item("a", 2, 8)))
        self.assertEqual([session.next_ask, session.payments, session.bound], ["c", [], 0])
        session.answer(1)
        self.assertEqual([session.is_done, session.result(), session.bound], [True, "c", 4])
        session.undo()
        session.answer(3)
        self.assertEqual([session.next_ask, session.bound], ["a", 4])
        session.answer(2)
        self.assertEqual([session.is_done, session.result(), session.bound, session.spent], [True, "a", 5, 5])

    def test_least_session_is_done_with_loose_items_left(self):
        session = LeastSession(Pool(Item("c", 0, 3), Item("b", 4, 9), Item("a", 4, 9)))
        self.assertEqual([session.is_done, session.result(), session.spent, session.bound], [True, "c", 0, 0])
        self.assertEqual(list(session.pool.loose_pairs()), [("a", "b")])

    def test_equal_least_and_greatest_values_go_by_the_name(self):
        session = LeastSession(Pool(Item("b", 0, 3, price=9), Item("a", 0, 3, price=8), Item("c", 0, 3, price=1)))
        self.assertEqual([session.next_ask, session.payments], ["a", [("a", "b", 8)]])
        session = LeastSession(Pool(Item("b", 0, 2, price=9), Item("a", 0, 3, price=8), Item("c", 0, 2, price=1)))
        self.assertEqual([session.next_ask, session.payments], ["c", [("b", "c", 1)]])


class Steps(SessionTest):

    def test_some_pools(self):
        for what, pool in some_pools().items():
            for kind, seed in product(KINDS, range(8)):
                with self.subTest(what=what, kind=kind.__name__):
                    self.run_through(kind, pool, draw_values(Random(seed), pool))

    def test_all_answers_at_an_end(self):
        for what, pool in some_pools().items():
            for kind in KINDS:
                for end in ("least", "greatest"):
                    values = {item.name: getattr(item, end) for item in pool.walk() if not item.is_exact}
                    self.run_through(kind, pool, values)

    def test_all_pools_of_three_small_items(self):
        for pool, values in small_pools(7):
            for kind in KINDS:
                self.run_through(kind, pool, values)

    def test_drawn_pools(self):
        for kind in KINDS:
            for pool, values in drawn_values(1, 150, 11):
                self.run_through(kind, pool, values)
            for pool, values in drawn_values(2, 60, 11, most=30, widest=14):
                self.run_through(kind, pool, values)

    def test_row_by_hand(self):
        items = row_items(18, [5] * 18)
        session = self.run_through(OrderSession, Pool(*items), {item.name: item.least + 7 for item in items})
        self.assertEqual(session.result(), [item.name for item in items])
        self.assertLessEqual(session.spent, 2 * 9 * 5)

    def test_items_inside_each_other_by_hand(self):
        items = nested_items(12)
        for kind in KINDS:
            session = self.run_through(kind, Pool(*items), {item.name: 50 for item in items})
            self.assertEqual(sorted(session.asked), sorted(item.name for item in items))
        self.assertEqual(session.result(), "a")

    def test_exact_items_only(self):
        pool = Pool(Item.exact("c", 2), Item.exact("b", 2), Item.exact("a", 9))
        for kind, result in [(OrderSession, ["b", "c", "a"]), (LeastSession, "b")]:
            session = self.run_through(kind, pool, {})
            self.assertTrue(same(state(session)[1:], (None, True, [], 0, [], 0)))
            self.assertEqual(session.result(), result)

    def test_no_items(self):
        for kind, result in [(OrderSession, []), (LeastSession, None), (Session, None)]:
            session = self.run_through(kind, Pool(), {})
            self.assertTrue(same(state(session)[1:], (None, True, [], 0, [], 0)))
            self.assertEqual(session.result(), result)

    def test_one_item(self):
        for kind, result in [(OrderSession, ["a"]), (LeastSession, "a"), (Session, None)]:
            for pool in (Pool(Item("a", 0, 5)), Pool(Item.exact("a", 0))):
                session = self.run_through(kind, pool, {})
                self.assertTrue(same(state(session)[1:], (None, True, [], 0, [], 0)))
                self.assertEqual(session.result(), result)

    def test_forty_items(self):
        for items in (forty_items(), row_items(40, list(range(1, 41))), wide_items(40)):
            for kind in KINDS:
                self.run_through(kind, Pool(*items), draw_values(Random(3), Pool(*items)))

    def test_all_overlap(self):
        pool = Pool(*[Item(name, 0, 9, price=at * 5 % 7 + 1) for at, name in enumerate(NAMES)])
        for kind, seed in product(KINDS, range(10)):
            self.run_through(kind, pool, draw_values(Random(seed), pool))


class Base(SessionTest):

    def test_the_base_class_has_nothing_to_ask(self):
        for pool in some_pools().values():
            with Unchanged(self, pool):
                session = Session(pool)
                self.assertTrue(same(state(session), (content(pool), None, True, [], 0, [], 0)))
                self.assertIsNone(session.result())
                refuse(self, SessionDone, session.answer, 3)
                refuse(self, NothingToUndo, session.undo)
                copied = session.copy()
                self.assertIs(copied.__class__, Session)
                self.assertTrue(same(state(copied), state(session)))

    def test_subclasses(self):
        for kind in KINDS:
            self.assertTrue(issubclass(kind, Session))
            self.assertIsInstance(kind(POOL), Session)
        self.assertNotIsInstance(OrderSession(POOL), LeastSession)
        self.assertNotIsInstance(LeastSession(POOL), OrderSession)


class Errors(SessionTest):

    def refuse(self, session, error, ask, *args):
        """Raise this error, and leave the session and the arguments as they are."""
        before = state(session)
        raised = refuse(self, error, ask, *args)
        self.assertTrue(same(state(session), before))
        return raised

    def test_answer_with_an_impossible_value(self):
        for kind in KINDS:
            session = kind(POOL)
            for value in NOT_INTEGERS + [1, 10, -1, 10 ** 39, {"b": 3}, ["b", 3], "3"]:
                self.assertEqual(self.refuse(session, InvalidValue, session.answer, value).which, "b")
            session.answer(5)
            for value in NOT_INTEGERS + [-1, 6, 10 ** 39]:
                self.assertEqual(self.refuse(session, InvalidValue, session.answer, value).which, "a")
            self.assertEqual(session.asked, ["b"])

    def test_bools_are_no_values(self):
        for kind, value in product(KINDS, (True, False)):
            session = kind(Pool(Item("a", 0, 1), Item("b", 0, 1)))
            self.assertEqual(self.refuse(session, InvalidValue, session.answer, value).which, "a")

    def test_answers_at_the_ends(self):
        for kind, value in product(KINDS, (2, 9)):
            session = kind(POOL)
            session.answer(value)
            self.assertEqual([session.asked, session.pool.item("b").value], [["b"], value])

    def test_answer_at_the_end(self):
        for kind in KINDS:
            done = [kind(pool) for pool in (Pool(), Pool(Item("a", 0, 5)), Pool(Item("a", 0, 5), Item("b", 6, 9)))]
            done.append(self.run_through(kind, POOL, {"a": 4, "b": 3, "c": 10}))
            for session in done:
                for value in NOT_INTEGERS + [0, 3, 5, 100]:
                    self.refuse(session, SessionDone, session.answer, value)

    def test_undo_ahead_of_the_first_answer(self):
        for kind in KINDS:
            for pool in some_pools().values():
                session = kind(pool)
                self.refuse(session, NothingToUndo, session.undo)
            session = kind(POOL)
            session.answer(3)
            session.undo()
            self.refuse(session, NothingToUndo, session.undo)
            self.refuse(session.copy(), NothingToUndo, session.copy().undo)

    def test_result_ahead_of_the_end(self):
        for kind in KINDS:
            session = kind(POOL)
            self.refuse(session, NotDone, session.result)
            session.answer(4)
            self.refuse(session, NotDone, session.result)
            session.answer(3)
            self.assertEqual(session.result(), ["a", "b", "c"] if kind is OrderSession else "a")
            session.undo()
            self.refuse(session, NotDone, session.result)


class UndoAndCopy(SessionTest):

    def test_undo_restores_each_state(self):
        for kind in KINDS:
            for pool, values in list(drawn_values(3, 60, 9)) + [
                    (pool, draw_values(Random(4), pool)) for pool in some_pools().values()]:
                session = kind(pool)
                states = [state(session)]
                while not session.is_done:
                    session.answer(values[session.next_ask])
                    states.append(state(session))
                while session.asked:
                    self.assertTrue(same(state(session), states.pop()))
                    self.assertIsNone(session.undo())
                self.assertTrue(same([state(session)], states))
                self.assertTrue(same(state(session), state(kind(pool))))

    def test_undo_and_answer_in_any_order(self):
        for seed in range(60):
            random = Random(seed)
            kind = random.choice(KINDS)
            pool = Pool(*random.choice([row_items(9, [3, 1, 4, 1, 5, 9, 2, 6, 5]), nested_items(8), wide_items(9)]))
            session, answers = kind(pool), []
            for _ in range(40):
                if not session.is_done and random.random() < 0.6:
                    item = session.pool.item(session.next_ask)
                    between = random.randint(item.least, item.greatest)
                    answers.append(random.choice([item.least, item.greatest, between]))
                    session.answer(answers[-1])
                elif answers:
                    session.undo()
                    answers.pop()
                self.check(session, model.Play(CHOICES[kind.__name__], model.ranges_of(pool), model.prices_of(pool),
                                               answers))

    def test_a_copy_is_independent(self):
        for kind in KINDS:
            inside = (Pool(*nested_items(12)), dict.fromkeys("abcdefghijkl", 50))
            for pool, values in list(drawn_values(5, 40, 9)) + [inside]:
                session = kind(pool)
                while not session.is_done:
                    copied, before = session.copy(), state(session)
                    self.assertIs(copied.__class__, kind)
                    self.assertTrue(same(state(copied), before))
                    # Answering the one leaves the other one as it was, in both directions.
                    copied.answer(values[copied.next_ask])
                    self.assertTrue(same(state(session), before))
                    behind = state(copied)
                    session.answer(values[session.next_ask])
                    self.assertTrue(same(state(session), behind))
                    session.undo()
                    self.assertTrue(same(state(copied), behind))
                    copied.undo()
                    self.assertTrue(same(state(copied), before))
                    session.answer(values[session.next_ask])
                    self.assertTrue(same(state(copied), before))
                copied = session.copy()
                self.assertTrue(same(copied.result(), session.result()))
                self.assertTrue(same(state(copied), state(session)))
                while copied.asked:
                    copied.undo()
                self.assertTrue(same(state(copied), state(kind(pool))))
                self.assertTrue(session.is_done)

    def test_lists_are_new(self):
        for kind in KINDS:
            session = kind(POOL)
            session.answer(4)
            kept = [session.asked, session.payments]
            before = state(session)
            session.asked.append("x")
            session.payments.append(("x", "y", 1))
            session.asked.clear()
            session.payments.clear()
            self.assertTrue(same(state(session), before))
            session.answer(3)
            self.assertEqual(kept, [["b"], [("a", "b", 2)]])
            self.assertEqual(session.asked, ["b", "a"])
            session.undo()
            session.undo()
            self.assertEqual(kept, [["b"], [("a", "b", 2)]])

    def test_results_are_new_lists(self):
        session = self.run_through(OrderSession, POOL, {"a": 4, "b": 3, "c": 10})
        session.result().append("x")
        self.assertEqual(session.result(), ["b", "a", "c"])

    def test_pools_that_were_returned_stay(self):
        session = OrderSession(POOL)
        kept = [session.pool]
        before = [content(POOL)]
        while not session.is_done:
            session.answer(session.pool.item(session.next_ask).least)
            kept.append(session.pool)
            before.append(content(session.pool))
        session.undo()
        self.assertTrue(same([content(pool) for pool in kept], before))

    def test_properties_are_not_assigned(self):
        for kind in KINDS + (Session,):
            session = kind(POOL)
            before = state(session)
            for name in ("pool", "next_ask", "is_done", "asked", "spent", "payments", "bound"):
                with self.assertRaises(AttributeError):
                    setattr(session, name, None)
            self.assertTrue(same(state(session), before))


class Facts(SessionTest):
    """[6], [22]: what a session finds, and what it spends at most."""

    TASKS = {"OrderSession": lambda ranges: not model.loose_of(ranges), "LeastSession": model.has_least}

    def check_facts(self, kind, pool, values):
        ranges, prices = model.ranges_of(pool), model.prices_of(pool)
        least_price = model.least_price_after(ranges, prices, values, self.TASKS[kind.__name__])
        session = kind(pool)
        bound = session.bound
        while not session.is_done:
            self.assertLessEqual(session.bound, least_price)
            session.answer(values[session.next_ask])
            self.assertGreaterEqual(session.bound, bound)
            bound = session.bound
            self.assertLessEqual(session.spent, 2 * bound)
        self.assertLessEqual(session.spent, 2 * least_price)
        self.assertLessEqual(bound, least_price)
        self.assertEqual(len(set(session.asked)), len(session.asked))
        self.check_truth(session, pool, values)

    def check_truth(self, session, pool, values):
        truth = model.truth_of(model.ranges_of(pool), values)
        if session.__class__ is OrderSession:
            self.assertEqual(session.result(), sure_order(session.pool))
            found = [truth[name] for name in session.result()]
            self.assertEqual(found, sorted(truth.values()))
        else:
            self.assertEqual(session.result(), sure_least(session.pool))
            if len(pool) > 0:
                self.assertEqual(truth[session.result()], min(truth.values()))

    def test_all_truths_of_pools_of_three_small_items(self):
        for pool, values in small_pools(3):
            for kind in KINDS:
                self.check_facts(kind, pool, values)

    def test_all_truths_of_drawn_pools(self):
        for pool, _ in drawn_values(6, 12, 5, most=6, widest=3):
            ranges = model.ranges_of(pool)
            for values in model.all_values(ranges, model.open_of(ranges)):
                for kind in KINDS:
                    self.check_facts(kind, pool, values)

    def test_drawn_truths(self):
        for pool, values in drawn_values(7, 150, 7):
            for kind in KINDS:
                self.check_facts(kind, pool, values)
        for pool, values in drawn_values(8, 60, 7, most=30, widest=14):
            for kind in KINDS:
                self.check_facts(kind, pool, values)


if __name__ == "__main__":
    unittest.main()
