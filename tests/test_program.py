"""Tests of what the document promises over the whole program: [2], [5], [6], [8], [9], [12] to [16], [18] to [28]."""

import unittest
from collections import Counter
from random import Random

from askranges.board import Board
from askranges.certificates import certificate, check_certificate
from askranges.cheapest import cheapest, paths
from askranges.errors import InvalidValues
from askranges.itemtypes import Item
from askranges.minimum import candidates, cheapest_least, sure_least
from askranges.pools import Pool
from askranges.possible import assignment, may_precede, obstacle
from askranges.sessions import LeastSession, OrderSession, Session
from askranges.settling import first_loose, needed, settles, witness
from askranges.shell import Shell
from askranges.smallest import SmallestSession, cheapest_smallest, smallest
from askranges.sorting import rank_pairs, ranks, sure_order
from askranges.splitting import cheapest_split, fits, is_known, split_certificate
from askranges.traps import price_of, trap
from tests import model
from tests.plainboard import outcome, shown
from tests.things import (Unchanged, content, draw_values, drawn_pools, drawn_values, forty_items, parts, row_items,
                          same, state, wide_items)

POOL = Pool(Item("a", 0, 5, price=3), Item("b", 2, 9, price=2), Item("c", 7, 12), Item.exact("d", 20))
VALUES = {"a": 1, "b": 6, "c": 10}


def told(thing):
    """What can be compared of anything that the program returns."""
    if isinstance(thing, Item):
        return parts(thing)
    if isinstance(thing, Pool):
        return content(thing)
    if isinstance(thing, Session):
        return state(thing)
    if isinstance(thing, Board):
        return shown(thing)
    if hasattr(thing, "__next__"):
        return [told(each) for each in thing]
    return thing


def ended(ask, *args, **more):
    """What a call returns, in a form that can be compared, or the error that it raises."""
    return outcome(lambda: told(ask(*args, **more)))


def running_board():
    board = Board()
    board.batch([("create", "main"), ("put", "main", "a", 0, 5, 3), ("put", "main", "b", 2, 9, 2),
                 ("create", "idle"), ("put", "idle", "a", 0, 5), ("begin", "main", "order"), ("answer", "main", 3),
                 ("mark", "here")])
    return board


def answered():
    session = OrderSession(POOL)
    session.answer(3)
    return session


# Functions and classes with their arguments, and what makes an object with the names of methods and their arguments.
FUNCTIONS = [
    (sure_order, {"pool": POOL.told(VALUES)}),
    (sure_order, {"pool": POOL}),
    (ranks, {"pool": POOL, "name": "b"}),
    (ranks, {"pool": POOL, "name": "x"}),
    (rank_pairs, {"pool": POOL}),
    (assignment, {"pool": POOL, "order": ["b", "a", "c", "d"]}),
    (assignment, {"pool": POOL, "order": ["b"]}),
    (obstacle, {"pool": POOL, "order": ["b", "c", "a", "d"]}),
    (obstacle, {"pool": POOL, "order": None}),
    (may_precede, {"pool": POOL, "first": "b", "second": "a"}),
    (may_precede, {"pool": POOL, "first": "c", "second": "a"}),
    (may_precede, {"pool": POOL, "first": "c", "second": None}),
    (needed, {"pool": POOL, "values": {**VALUES, "a": 3}}),
    (needed, {"pool": POOL, "values": None}),
    (witness, {"pool": POOL, "values": {**VALUES, "a": 3}, "name": "b"}),
    (witness, {"pool": POOL, "values": VALUES, "name": "d"}),
    (settles, {"pool": POOL, "values": VALUES, "asked": ["b"]}),
    (settles, {"pool": POOL, "values": VALUES, "asked": "b"}),
    (first_loose, {"pool": POOL, "values": VALUES, "asked": ["a"]}),
    (paths, {"pool": POOL, "values": VALUES}),
    (cheapest, {"pool": POOL, "values": VALUES}),
    (cheapest, {"pool": POOL, "values": {}}),
    (certificate, {"pool": POOL, "values": VALUES}),
    (check_certificate, {"pool": POOL, "values": VALUES, "thing": [("a", "b", 1)], "bar": 1}),
    (check_certificate, {"pool": POOL, "values": VALUES, "thing": [("a", "b", 1)], "bar": 2}),
    (sure_least, {"pool": POOL.told_by(a=1)}),
    (candidates, {"pool": POOL, "values": VALUES}),
    (candidates, {"pool": POOL, "values": []}),
    (cheapest_least, {"pool": POOL, "values": VALUES}),
    (fits, {"pool": POOL, "values": VALUES, "low_names": ["a"]}),
    (is_known, {"pool": POOL, "low_names": ["a", "b", "c"]}),
    (is_known, {"pool": POOL, "low_names": ["a", "a"]}),
    (cheapest_split, {"pool": POOL, "values": VALUES, "low_names": ["a"]}),
    (cheapest_split, {"pool": POOL, "values": VALUES, "low_names": ["b"]}),
    (split_certificate, {"pool": POOL, "values": VALUES, "low_names": ["a"]}),
    (trap, {"first": Item("a", 0, 5), "second": Item("b", 2, 9)}),
    (price_of, {"values": VALUES, "session": OrderSession(POOL), "limit": 1}),
    (price_of, {"values": VALUES, "session": OrderSession(POOL), "limit": -1}),
    (smallest, {"pool": POOL, "values": VALUES, "count": 2}),
    (smallest, {"pool": POOL, "values": VALUES, "count": 5}),
    (cheapest_smallest, {"pool": POOL, "values": VALUES, "count": 2}),
    (Item.is_name, {"thing": "abc"}),
    (Item.is_name, {"thing": ["abc"]}),
    (Item.exact, {"name": "a", "value": 3}),
    (Item.exact, {"name": "A", "value": 3}),
    (Item, {"name": "a", "least": 0, "greatest": 5}),
    (Item, {"name": "a", "least": 5, "greatest": 0}),
    (Pool.read, {"text": POOL.text}),
    (Pool.read, {"text": "a 1\nx"}),
    (Session, {"pool": POOL}),
    (OrderSession, {"pool": POOL}),
    (LeastSession, {"pool": POOL}),
    (SmallestSession, {"pool": POOL, "count": 2}),
    (SmallestSession, {"pool": POOL, "count": True}),
]
METHODS = [
    (lambda: Item("a", 0, 5), "told", {"value": 3}),
    (lambda: Item("a", 0, 5), "told", {"value": 6}),
    (lambda: Item("a", 0, 5), "is_surely_before", {"other": Item("b", 6, 9)}),
    (lambda: Item("a", 0, 5), "is_loose_with", {"other": Item("b", 5, 9)}),
    (lambda: POOL, "item", {"name": "a"}),
    (lambda: POOL, "item", {"name": "x"}),
    (lambda: POOL, "without", {"name": "a"}),
    (lambda: POOL, "without", {"name": None}),
    (lambda: POOL, "told", {"values": {"a": 3}}),
    (lambda: POOL, "told", {"values": {"a": 9}}),
    (lambda: POOL, "walk", {}),
    (lambda: POOL, "loose_pairs", {}),
    (answered, "answer", {"value": 1}),
    (answered, "answer", {"value": 9}),
    (answered, "undo", {}),
    (answered, "result", {}),
    (answered, "copy", {}),
    (running_board, "create", {"name": "x"}),
    (running_board, "create", {"name": "main"}),
    (running_board, "put", {"name": "idle", "item": "x", "least": 3, "greatest": 5}),
    (running_board, "put", {"name": "main", "item": "x", "least": 3, "greatest": 5}),
    (running_board, "take", {"name": "idle", "item": "a"}),
    (running_board, "take", {"name": "a", "item": "idle"}),
    (running_board, "begin", {"name": "idle", "kind": "least"}),
    (running_board, "begin", {"name": "idle", "kind": "a"}),
    (running_board, "answer", {"name": "main", "value": 1}),
    (running_board, "answer", {"name": "main", "value": 7}),
    (running_board, "undo", {"name": "main"}),
    (running_board, "finish", {"name": "main"}),
    (running_board, "drop", {"name": "main"}),
    (running_board, "mark", {"label": "x"}),
    (running_board, "back", {"label": "here"}),
    (running_board, "back", {"label": "x"}),
    (running_board, "batch", {"commands": [("finish", "main"), ("put", "main", "x", 3, 5, 7)]}),
    (running_board, "batch", {"commands": [("finish", "main"), ("finish", "main")]}),
    (running_board, "pool_of", {"name": "main"}),
    (running_board, "session_of", {"name": "main"}),
    (running_board, "session_of", {"name": "idle"}),
    (running_board, "copy", {}),
    (Shell, "run", {"line": "create main"}),
    (Shell, "run", {"line": "create "}),
]


def backwards(more):
    return {name: more[name] for name in reversed(more)}


class Calls(unittest.TestCase):
    """[2]: parameters may be passed by position or by name."""

    def test_functions_and_classes_by_name_in_another_order(self):
        for ask, more in FUNCTIONS:
            with self.subTest(ask=ask.__name__, more=repr(more)[:200]):
                expected = ended(ask, *more.values())
                self.assertTrue(same(ended(ask, **more), expected))
                self.assertTrue(same(ended(ask, **backwards(more)), expected))
                first, *rest = more
                named = backwards({name: more[name] for name in rest})
                self.assertTrue(same(ended(ask, more[first], **named), expected))

    def test_methods_by_name_in_another_order(self):
        for make, word, more in METHODS:
            with self.subTest(word=word, more=repr(more)[:200]):
                results = []
                for args, named in [(more.values(), {}), ((), more), ((), backwards(more))]:
                    thing = make()
                    result = ended(getattr(thing, word), *args, **named)
                    results.append((result, None if isinstance(thing, Shell) else told(thing)))
                self.assertTrue(same(results, [results[0]] * 3))

    def test_parameters_behind_the_star(self):
        self.assertEqual(parts(Item("a", 0, 5, price=3)), parts(Item(price=3, greatest=5, least=0, name="a")))
        with self.assertRaises(TypeError):
            Item("a", 0, 5, 3)
        one, two = running_board(), running_board()
        one.put("idle", "x", 3, 5, price=7)
        two.put(price=7, greatest=5, least=3, item="x", name="idle")
        self.assertTrue(same(shown(one), shown(two)))
        with self.assertRaises(TypeError):
            one.put("idle", "x", 3, 5, 7)

    def test_keyword_arguments_of_told_by(self):
        pool = Pool(Item("values", 0, 5), Item("name", 0, 5), Item("pool", 0, 5))
        self.assertEqual(pool.told_by(values=3, pool=1, name=2), pool.told({"name": 2, "pool": 1, "values": 3}))

    def test_called_twice(self):
        for ask, more in FUNCTIONS:
            with Unchanged(self, *[thing for thing in more.values() if not isinstance(thing, Item)]):
                self.assertTrue(same(ended(ask, **more), ended(ask, **more)))

    def test_properties_read_twice(self):
        board = running_board()
        board.finish("main")
        for thing, names in [(Item("a", 0, 5), ["name", "least", "greatest", "price", "is_exact", "value"]),
                             (Item.exact("a", 5), ["name", "least", "greatest", "price", "is_exact", "value"]),
                             (POOL, ["names", "text"]), (board, ["names", "spent", "log"]),
                             (answered(), ["pool", "next_ask", "is_done", "asked", "spent", "payments", "bound"])]:
            for name in names:
                self.assertTrue(same(told(getattr(thing, name)), told(getattr(thing, name))))

    def test_generators_walked_twice(self):
        for make in (POOL.walk, POOL.loose_pairs, lambda: rank_pairs(POOL), lambda: candidates(POOL, VALUES)):
            once = told(make())
            self.assertGreater(len(once), 1)
            self.assertTrue(same(told(make()), once))
            # A walk that is left in the middle does not matter to the next one.
            next(make())
            walks = make(), make()
            both = [(told(one), told(two)) for one, two in zip(*walks)]
            self.assertTrue(same(both, [(each, each) for each in once]))


def profile(pool, values):
    """What every stage says of a pool, with values for its open items."""
    names = pool.names
    order = sorted(names, key=lambda name: (pool.item(name).least, name))
    said = [content(pool), ended(sure_order, pool), [ranks(pool, name) for name in names], list(rank_pairs(pool)),
            ended(assignment, pool, order), ended(obstacle, pool, order[::-1]),
            [may_precede(pool, one, two) for one in names for two in names], needed(pool, values),
            [witness(pool, values, name) for name in values], ended(first_loose, pool, values, list(values)[:1]),
            settles(pool, values, list(values)), paths(pool, values), cheapest(pool, values),
            certificate(pool, values),
            check_certificate(pool, values, certificate(pool, values), cheapest(pool, values)[0]), sure_least(pool),
            list(candidates(pool, values)), cheapest_least(pool, values)]
    for count in range(len(names) + 1):
        lows = smallest(pool, values, count)
        said += [lows, fits(pool, values, lows), is_known(pool, lows), cheapest_split(pool, values, lows),
                 split_certificate(pool, values, lows), cheapest_smallest(pool, values, count)]
    for session in [Session(pool), OrderSession(pool), LeastSession(pool)] + [
            SmallestSession(pool, count) for count in range(len(names) + 1)]:
        said += [state(session), price_of(values, session), price_of(values, session, 1)]
        while not session.is_done:
            session.answer(values[session.next_ask])
            said.append(state(session))
        said.append(session.result())
    return said


def on_a_board(items, values, kind):
    """The pool from a board that asked items of these in a session, and told the others by put."""
    board = Board()
    board.create("main")
    for item in items:
        board.put("main", item.name, item.least, item.greatest, price=item.price or 1)
    ask = board.begin("main", kind)
    while ask is not None and ask in values:
        ask = board.answer("main", values[ask])
    board.mark("x")
    board.finish("main")
    for name in values:
        board.put("main", name, values[name], values[name])
    pool = board.pool_of("main")
    board.back("x")
    board.drop("main")
    return pool


class EqualPools(unittest.TestCase):
    """[8], [9], [21], [25]: pools with equal items are equal and behave alike, in any way they were made."""

    def ways(self, items, values):
        """Pools of these items after asking those that have values here, made in many ways."""
        pool = Pool(*items)
        known = [Item.exact(item.name, values[item.name]) if item.name in values else item for item in items]
        yield Pool(*known)
        yield Pool(*reversed(known))
        yield Pool.read(Pool(*known).text)
        yield pool.told(values)
        yield pool.told({name: values[name] for name in reversed(values)})
        yield pool.told_by(**values)
        one_by_one = pool
        for name in values:
            one_by_one = one_by_one.told({name: values[name]})
        yield one_by_one
        by_item = Pool()
        for item in reversed(known):
            by_item = by_item.with_items(item)
        yield by_item
        yield pool.with_items(*known)
        yield pool.with_items(*[item.told(values[item.name]) for item in items if item.name in values])
        left_out = Pool(*known)
        for item in known:
            left_out = left_out.without(item.name).with_items(item)
        yield left_out
        for kind in (OrderSession, LeastSession):
            session = kind(pool)
            while session.next_ask in values:
                session.answer(values[session.next_ask])
            rest = {name: values[name] for name in values if name not in session.asked}
            yield session.pool.told(rest)
            yield session.copy().pool.told(rest)
        yield on_a_board(items, values, "order")
        yield on_a_board(items, values, "least")

    def test_ways(self):
        for random, pool in drawn_pools(1, 40, 6):
            items = list(pool.walk())
            values = draw_values(random, pool)
            told_names = random.sample(list(values), random.randint(0, len(values)))
            told_values = {name: values[name] for name in told_names}
            left = {name: values[name] for name in values if name not in told_names}
            ways = list(self.ways(items, told_values))
            expected = profile(ways[0], left)
            for way in ways:
                self.assertIs(way == ways[0], True)
                self.assertIs(ways[0] == way, True)
                self.assertTrue(same(content(way), content(ways[0])))
            for way in ways[1:]:
                self.assertTrue(same(profile(way, left), expected))

    def test_forty_items(self):
        for items in (forty_items(), wide_items(40)):
            values = draw_values(Random(1), Pool(*items))
            some = {name: values[name] for name in list(values)[::2]}
            ways = list(self.ways(items, some))
            for way in ways:
                self.assertIs(way == ways[0], True)
                self.assertTrue(same(content(way), content(ways[0])))


class SameObjects(unittest.TestCase):
    """[2]: what a function returns depends on what its arguments hold when it is called."""

    # Functions of a pool and values, with other arguments that go with POOL.
    ASKS = [needed, paths, cheapest, certificate, cheapest_least, lambda pool, values: list(candidates(pool, values)),
            lambda pool, values: witness(pool, values, "b"), lambda pool, values: settles(pool, values, ["b"]),
            lambda pool, values: first_loose(pool, values, ["a"]), lambda pool, values: fits(pool, values, ["a"]),
            lambda pool, values: check_certificate(pool, values, [("a", "b", 1)], 1),
            lambda pool, values: cheapest_split(pool, values, ["a"]),
            lambda pool, values: split_certificate(pool, values, ["a"]),
            lambda pool, values: smallest(pool, values, 2), lambda pool, values: cheapest_smallest(pool, values, 2),
            lambda pool, values: price_of(values, OrderSession(pool)),
            lambda pool, values: price_of(values, LeastSession(pool), 2)]

    def test_values(self):
        for ask in self.ASKS:
            answers = []
            values = dict(VALUES)
            for changes in [{}, {"a": 3}, {"a": 5, "b": 2}, {"b": 9}, {"c": 7}, {"a": 1}, {"b": 2}, {"c": 10, "b": 6}]:
                values.update(changes)
                answers.append(repr(outcome(ask, POOL, values)))
                self.assertEqual(repr(outcome(ask, POOL, dict(values))), answers[-1])
            self.assertEqual(answers[0], answers[-1])
            self.assertGreater(len(set(answers)), 1)

    def test_values_that_become_impossible(self):
        for ask in self.ASKS:
            values = dict(VALUES)
            before = ask(POOL, values)
            for name, value in [("a", 6), ("b", True), ("c", None), ("d", 20), ("a", "1")]:
                values[name] = value
                self.assertEqual(outcome(ask, POOL, values), ("InvalidValues", {}))
                del values[name]
                values.update(VALUES)
                self.assertTrue(same(ask(POOL, values), before))

    def test_values_without_a_name(self):
        values = dict(VALUES)
        for ask in self.ASKS[:6]:
            ask(POOL, values)
            del values["b"]
            with self.assertRaises(InvalidValues):
                ask(POOL, values)
            values["b"] = VALUES["b"]
            ask(POOL, values)

    def test_lists(self):
        """Lists of names, orders and certificates."""
        names, order, thing = ["b"], ["b", "a", "c", "d"], [("a", "b", 1), ("b", "c", 1)]
        commands = [("create", "x")]
        self.assertEqual([settles(POOL, VALUES, names), first_loose(POOL, VALUES, names), fits(POOL, VALUES, names),
                          is_known(POOL, names)], [True, None, False, False])
        self.assertEqual([assignment(POOL, order), obstacle(POOL, order)], [{"a": 2, "b": 2, "c": 7, "d": 20}, None])
        self.assertIs(check_certificate(POOL, VALUES, thing, 2), True)
        board = Board()
        board.batch(commands)
        names[0] = "a"
        order.reverse()
        thing.pop()
        commands[0] = ("create", "y")
        self.assertEqual([settles(POOL, VALUES, names), first_loose(POOL, VALUES, names), fits(POOL, VALUES, names),
                          is_known(POOL.told(VALUES), names), cheapest_split(POOL, VALUES, names)],
                         [False, ("b", "c"), True, True, (2, ["b"])])
        self.assertEqual([assignment(POOL, order), obstacle(POOL, order)], [None, ("d", "c")])
        self.assertIs(check_certificate(POOL, VALUES, thing, 2), False)
        board.batch(commands)
        self.assertEqual(board.names, ["x", "y"])

    def test_objects_copy_their_arguments(self):
        values, commands = {"a": 3}, [("create", "x")]
        pool, board = POOL.told(values), Board()
        board.batch(commands)
        values["a"] = 4
        commands.clear()
        self.assertEqual([pool.item("a").value, board.names], [3, ["x"]])


class EachStep(unittest.TestCase):
    """[6], [21], [22], [28]: what holds at each step of every session."""

    def kinds(self, pool):
        yield OrderSession(pool)
        yield LeastSession(pool)
        for count in range(len(pool) + 1):
            yield SmallestSession(pool, count)

    def check_step(self, pool, session):
        self.assertLessEqual(session.spent, 2 * session.bound)
        self.assertLessEqual(session.bound, sum(pool.item(name).price for name in pool.names))
        paid = Counter()
        for first, second, amount in session.payments:
            self.assertLess(first, second)
            self.assertGreater(amount, 0)
            paid[first] += amount
            paid[second] += amount
        for name in paid:
            self.assertLessEqual(paid[name], pool.item(name).price)
        self.assertEqual(len(set(session.asked)), len(session.asked))
        for name in session.asked:
            self.assertIs(pool.item(name).is_exact, False)
            self.assertIs(session.pool.item(name).is_exact, True)
        self.assertEqual(session.spent, sum(pool.item(name).price for name in session.asked))
        self.assertIs(session.is_done, session.next_ask is None)
        if not session.is_done:
            self.assertNotIn(session.next_ask, session.asked)
            self.assertIs(session.pool.item(session.next_ask).is_exact, False)

    def check_sure(self, session):
        ranges = model.ranges_of(session.pool)
        if isinstance(session, OrderSession):
            self.assertEqual(session.result(), model.sure_order_of(ranges))
            self.assertEqual(model.loose_of(ranges), [])
        elif isinstance(session, LeastSession):
            self.assertEqual(session.result(), model.sure_least_of(ranges))
            self.assertIs(session.result() is None, len(ranges) == 0)
        else:
            self.assertTrue(model.knows_split(ranges, session.result()))

    def run_through(self, pool, values):
        for session in self.kinds(pool):
            bound = session.bound
            self.check_step(pool, session)
            while not session.is_done:
                session.answer(values[session.next_ask])
                self.assertGreaterEqual(session.bound, bound)
                bound = session.bound
                self.check_step(pool, session)
            self.check_sure(session)

    def test_drawn_pools(self):
        for pool, values in drawn_values(2, 60, 9):
            self.run_through(pool, values)
        for pool, values in drawn_values(3, 40, 9, most=3, widest=12):
            self.run_through(pool, values)

    def test_rows_and_wide_items(self):
        for items in (row_items(12, [5, 3, 9, 1, 999, 7, 7, 2, 4, 8, 6, 5]), wide_items(14)):
            for seed in range(6):
                self.run_through(Pool(*items), draw_values(Random(seed), Pool(*items)))


if __name__ == "__main__":
    unittest.main()
