"""Tests of askranges.board: [2], [21], [24] and [25]."""

import unittest
from random import Random

from askranges.board import Board
from askranges.errors import (DuplicateName, InvalidCommand, InvalidItem, InvalidKind, InvalidName, InvalidValue,
                              NoSession, NothingToUndo, SessionDone, SessionOpen, UnknownMark, UnknownName)
from askranges.itemtypes import Item
from askranges.pools import Pool
from askranges.sessions import LeastSession, OrderSession
from tests.plainboard import PlainBoard, execute, outcome, shown
from tests.things import NAMES, NOT_INTEGERS, NOT_NAMES, Unchanged, content, refuse, same, state

ANYTHING = NOT_NAMES + NAMES + [2, 3, -5, ("create", "a"), [("create", "a")], "order", "least", "batch", "create"]
THREE = [("a", 0, 5, 3), ("b", 2, 9, 2), ("c", 7, 12, 1)]


def filled():
    """A board with a pool of each kind: with a session, with one that is done, without one, without items."""
    board = Board()
    for name in ("running", "done", "idle", "empty"):
        board.create(name)
    for name in ("running", "done", "idle"):
        for item, least, greatest, price in THREE:
            board.put(name, item, least, greatest, price=price)
    board.begin("running", "order")
    board.answer("running", 3)
    board.begin("done", "least")
    board.answer("done", 6)
    board.mark("before")
    return board


class BoardTest(unittest.TestCase):

    def refuse(self, board, error, word, *arguments):
        """Raise this error, with which only the log changes; return it."""
        rows, spent, log = shown(board)
        with Unchanged(self, *arguments):
            kind, attributes = outcome(execute, board, word, *arguments)
        with self.subTest(word=word, arguments=repr(arguments)[:200]):
            self.assertEqual(kind, error.__name__)
            self.assertTrue(same(shown(board), (rows, spent, log + [word, "failed"])))
        return attributes

    def refuse_query(self, board, error, ask, *arguments):
        before = shown(board)
        refuse(self, error, ask, *arguments)
        self.assertTrue(same(shown(board), before))


class Example(unittest.TestCase):

    def test_example_of_25(self):
        board = Board()
        board.create('main')
        board.put('main', 'a', 0, 5, price=3)
        board.put('main', 'b', 2, 9)
        self.assertEqual([board.begin('main', 'order'), board.answer('main', 6), board.finish('main')], ['b', None, 1])
        self.assertEqual([board.pool_of('main').text, board.spent], ['a 0 5 3\nb 6', 1])


class CreateAndDrop(BoardTest):

    def test_a_new_board(self):
        board = Board()
        self.assertTrue(same([board.names, board.spent, board.log], [[], 0, []]))

    def test_create(self):
        board = Board()
        for name in ("b", "a", "zzzzzzzz", "order", "aa"):
            self.assertIsNone(board.create(name))
            self.assertEqual(board.pool_of(name), Pool())
        self.assertEqual(board.names, ["a", "aa", "b", "order", "zzzzzzzz"])
        self.assertEqual(board.log, ["create", "done"] * 5)
        self.assertEqual(Board().names, [])

    def test_create_with_other_objects(self):
        board = filled()
        for thing in NOT_NAMES:
            self.refuse(board, InvalidName, "create", thing)
        for name in board.names:
            self.assertEqual(self.refuse(board, DuplicateName, "create", name), {"which": name})

    def test_drop(self):
        board = filled()
        for name in ("running", "idle", "empty", "done"):
            self.assertIsNone(board.drop(name))
            self.refuse_query(board, UnknownName, board.pool_of, name)
            self.refuse_query(board, UnknownName, board.session_of, name)
            self.refuse(board, UnknownName, "drop", name)
            self.assertEqual(board.spent, 0)
        self.assertEqual(board.names, [])

    def test_drop_of_other_objects(self):
        board = filled()
        for thing in NOT_NAMES + ["before", "a", "runnin", "runningg"]:
            self.refuse(board, UnknownName, "drop", thing)

    def test_a_pool_that_is_created_again_is_empty(self):
        board = filled()
        board.drop("running")
        board.create("running")
        self.assertEqual(len(board.pool_of("running")), 0)
        self.refuse_query(board, NoSession, board.session_of, "running")
        self.assertIsNone(board.put("running", "a", 0, 5))

    def test_other_boards(self):
        board, other = filled(), Board()
        other.create("running")
        self.assertEqual([other.names, other.log, len(other.pool_of("running"))], [["running"], ["create", "done"], 0])
        board.drop("running")
        self.assertEqual(other.names, ["running"])


class PutAndTake(BoardTest):

    def test_put_adds_and_replaces(self):
        board = Board()
        board.create("main")
        for arguments, text in [(("b", 0, 5), "b 0 5 1"), (("a", -3, 4), "a -3 4 1\nb 0 5 1"),
                                (("b", 2, 2), "a -3 4 1\nb 2"), (("b", 1, 9), "a -3 4 1\nb 1 9 1")]:
            self.assertIsNone(board.put("main", *arguments))
            self.assertEqual(board.pool_of("main").text, text)
        board.put("main", "b", 1, 9, price=999)
        board.put("main", "c", 4, 4, price=7)
        self.assertEqual(board.pool_of("main").text, "a -3 4 1\nb 1 9 999\nc 4")
        board.put(price=5, greatest=8, least=6, item="a", name="main")
        self.assertEqual(board.pool_of("main").text, "a 6 8 5\nb 1 9 999\nc 4")
        self.assertEqual(board.log, ["create", "done"] + ["put", "done"] * 7)

    def test_price_is_passed_by_its_name_only(self):
        board = Board()
        board.create("main")
        with self.assertRaises(TypeError):
            board.put("main", "a", 0, 5, 3)

    def test_put_takes_a_pool_with_the_answers_of_a_finished_session(self):
        board = filled()
        board.finish("running")
        board.put("running", "a", 1, 4)
        self.assertEqual(board.pool_of("running").text, "a 1 4 1\nb 3\nc 7 12 1")
        board.put("running", "b", 2, 9, price=4)
        self.assertEqual(board.pool_of("running").text, "a 1 4 1\nb 2 9 4\nc 7 12 1")

    def test_take(self):
        board = filled()
        for item, text in [("b", "a 0 5 3\nc 7 12 1"), ("a", "c 7 12 1"), ("c", "")]:
            self.assertIsNone(board.take("idle", item))
            self.assertEqual(board.pool_of("idle").text, text)
            self.refuse(board, UnknownName, "take", "idle", item)
        self.assertEqual(board.pool_of("running").names, ["a", "b", "c"])

    def test_the_first_error_of_put(self):
        board = filled()
        wrong_items = [(name, 0, 5) for name in NOT_NAMES] + [("a", end, 5) for end in NOT_INTEGERS] + [
            ("a", 0, end) for end in NOT_INTEGERS] + [("a", 5, 4), ("a", 0, -1)]
        wrong_items += [("a", 0, 5, price) for price in NOT_INTEGERS + [0, -1, 1000]]
        wrong_items += [("a", 5, 5, price) for price in (0, 1000, None)]
        for thing in NOT_NAMES + ["before", "a"]:
            for item in [("a", 0, 5, 1)] + wrong_items[::40]:
                self.refuse(board, UnknownName, "put", thing, *item)
        for name in ("idle", "empty", "running", "done"):
            for item in wrong_items:
                self.refuse(board, InvalidItem, "put", name, *item)
        for name in ("running", "done"):
            for item in [("a", 0, 5), ("b", 2, 9, 2), ("x", 4, 4), ("a", 0, 5, 3)]:
                self.refuse(board, SessionOpen, "put", name, *item)

    def test_the_first_error_of_take(self):
        board = filled()
        for thing in NOT_NAMES + ["before", "a"]:
            for item in ("a", "x", None, []):
                self.refuse(board, UnknownName, "take", thing, item)
        for name in ("idle", "empty", "running", "done"):
            for item in NOT_NAMES + ["d", "aa", "running"]:
                self.refuse(board, UnknownName, "take", name, item)
        for name in ("running", "done"):
            for item in ("a", "b", "c"):
                self.refuse(board, SessionOpen, "take", name, item)

    def test_pools_that_were_returned_stay(self):
        board = Board()
        board.create("main")
        kept, contents = [], []
        for word, *arguments in [("put", "main", "a", 0, 5), ("put", "main", "b", 2, 9), ("put", "main", "a", 1, 1),
                                 ("take", "main", "a"), ("put", "main", "a", 0, 5), ("begin", "main", "order"),
                                 ("answer", "main", 4), ("undo", "main"), ("answer", "main", 1), ("finish", "main"),
                                 ("drop", "main"), ("create", "main")]:
            execute(board, word, *arguments)
            if board.names:
                kept.append(board.pool_of("main"))
                contents.append(content(kept[-1]))
        self.assertTrue(same([content(pool) for pool in kept], contents))


class Sessions(BoardTest):

    def test_each_command_of_an_order_session(self):
        board = filled()
        self.assertEqual(board.begin("idle", "order"), "b")
        self.assertIs(board.session_of("idle").__class__, OrderSession)
        self.assertEqual(board.answer("idle", 8), "c")
        self.assertEqual(board.pool_of("idle").text, "a 0 5 3\nb 8\nc 7 12 1")
        self.assertIsNone(board.undo("idle"))
        self.assertEqual(board.pool_of("idle").text, "a 0 5 3\nb 2 9 2\nc 7 12 1")
        self.assertEqual(board.answer("idle", 3), "a")
        self.assertIsNone(board.answer("idle", 4))
        self.assertEqual(board.session_of("idle").result(), ["b", "a", "c"])
        self.assertEqual(board.spent, 0)
        self.assertEqual(board.finish("idle"), 5)
        self.assertEqual([board.pool_of("idle").text, board.spent], ["a 4\nb 3\nc 7 12 1", 5])
        self.refuse_query(board, NoSession, board.session_of, "idle")

    def test_each_command_of_a_least_session(self):
        board = filled()
        self.assertEqual(board.begin("idle", "least"), "b")
        self.assertIs(board.session_of("idle").__class__, LeastSession)
        self.assertIsNone(board.answer("idle", 8))
        self.assertEqual(board.session_of("idle").result(), "a")
        self.assertEqual([board.finish("idle"), board.spent], [2, 2])
        self.assertEqual(board.pool_of("idle").text, "a 0 5 3\nb 8\nc 7 12 1")
        self.assertIsNone(board.begin("idle", "least"))
        self.assertEqual([board.finish("idle"), board.spent], [0, 2])

    def test_begin_when_there_is_nothing_to_ask(self):
        board = filled()
        for kind in ("order", "least"):
            self.assertIsNone(board.begin("empty", kind))
            self.assertIs(board.session_of("empty").is_done, True)
            self.assertTrue(same(board.finish("empty"), 0))

    def test_finish_ahead_of_the_end_keeps_the_answers(self):
        board = filled()
        self.assertEqual(board.finish("running"), 2)
        self.assertEqual([board.pool_of("running").text, board.spent], ["a 0 5 3\nb 3\nc 7 12 1", 2])
        self.assertEqual(board.begin("running", "order"), "a")
        self.assertIs(board.answer("running", 0), None)
        self.assertEqual([board.finish("running"), board.spent], [3, 5])

    def test_an_answer_that_was_taken_back_is_not_counted(self):
        board = filled()
        board.undo("running")
        self.assertEqual([board.finish("running"), board.spent], [0, 0])
        self.assertEqual(board.pool_of("running").text, "a 0 5 3\nb 2 9 2\nc 7 12 1")

    def test_sessions_of_several_pools(self):
        board = filled()
        board.begin("idle", "least")
        self.assertEqual(board.answer("running", 1), None)
        self.assertEqual(board.answer("idle", 2), "a")
        self.assertEqual([board.finish("done"), board.finish("running"), board.finish("idle")], [2, 5, 2])
        self.assertEqual(board.spent, 9)

    def test_a_dropped_session_is_not_counted(self):
        board = filled()
        board.drop("running")
        self.assertEqual([board.spent, board.names], [0, ["done", "empty", "idle"]])

    def test_session_of_returns_a_copy(self):
        board = filled()
        session = board.session_of("running")
        before = shown(board)
        session.answer(4)
        session.undo()
        session.undo()
        self.assertTrue(same(shown(board), before))
        self.assertEqual(session.asked, [])
        kept = board.session_of("running")
        told = state(kept)
        board.answer("running", 4)
        board.undo("running")
        board.undo("running")
        self.assertTrue(same(state(kept), told))

    def test_arguments_by_name(self):
        board = Board()
        board.create(name="main")
        board.put("main", "a", 0, 5)
        board.put(name="main", item="b", least=2, greatest=9)
        self.assertEqual(board.begin(kind="order", name="main"), "a")
        self.assertEqual(board.answer(value=2, name="main"), "b")
        board.undo(name="main")
        board.mark(label="x")
        self.assertEqual(board.pool_of(name="main").text, "a 0 5 1\nb 2 9 1")
        self.assertEqual(board.session_of(name="main").asked, [])
        self.assertEqual(board.finish(name="main"), 0)
        board.take(item="a", name="main")
        board.back(label="x")
        self.assertEqual(board.batch(commands=[("answer", "main", 2)]), ["b"])
        board.drop(name="main")
        self.assertEqual(board.names, [])


class SessionErrors(BoardTest):

    def test_unknown_pools(self):
        board = filled()
        for thing in NOT_NAMES + ["before", "a", "runnin"]:
            for kind in ("order", "worst", None):
                self.refuse(board, UnknownName, "begin", thing, kind)
            for value in (3, None, []):
                self.refuse(board, UnknownName, "answer", thing, value)
            for word in ("undo", "finish"):
                self.refuse(board, UnknownName, word, thing)
            self.refuse_query(board, UnknownName, board.pool_of, thing)
            self.refuse_query(board, UnknownName, board.session_of, thing)

    def test_kinds(self):
        board = filled()
        for kind in NOT_NAMES + NAMES + ["Order", "orders", "smallest", "session", "order ", ["order"], ("least",)]:
            for name in board.names:
                self.refuse(board, InvalidKind, "begin", name, kind)

    def test_begin_with_a_session(self):
        board = filled()
        for kind in ("order", "least"):
            for name in ("running", "done"):
                self.refuse(board, SessionOpen, "begin", name, kind)

    def test_no_session(self):
        board = filled()
        for name in ("idle", "empty"):
            for value in ANYTHING:
                self.refuse(board, NoSession, "answer", name, value)
            self.refuse(board, NoSession, "undo", name)
            self.refuse(board, NoSession, "finish", name)
            self.refuse_query(board, NoSession, board.session_of, name)
        board.finish("running")
        for word in ("undo", "finish"):
            self.refuse(board, NoSession, word, "running")

    def test_answers(self):
        board = filled()
        for value in NOT_INTEGERS + [-1, 6, 10 ** 39, -(10 ** 39)]:
            self.assertEqual(self.refuse(board, InvalidValue, "answer", "running", value), {"which": "a"})
        for value in ANYTHING:
            self.refuse(board, SessionDone, "answer", "done", value)

    def test_undo_ahead_of_the_first_answer(self):
        board = filled()
        for name in ("running", "done"):
            board.undo(name)
            self.refuse(board, NothingToUndo, "undo", name)
        board.begin("idle", "order")
        self.refuse(board, NothingToUndo, "undo", "idle")


class Marks(BoardTest):

    def test_back_restores_any_number_of_times(self):
        board = filled()
        rows, spent, _ = shown(board)
        for change in ([("answer", "running", 4), ("finish", "running")], [("drop", "running"), ("drop", "idle")],
                       [("undo", "running"), ("undo", "done"), ("answer", "done", 2)], [("create", "more")],
                       [("put", "idle", "x", 3, 3), ("take", "idle", "a")], [("begin", "idle", "least")],
                       [("finish", "done"), ("put", "done", "a", 4, 4), ("begin", "done", "order")]):
            for word, *arguments in change:
                execute(board, word, *arguments)
            self.assertNotEqual(shown(board)[:2], (rows, spent))
            self.assertIsNone(board.back("before"))
            self.assertTrue(same(shown(board)[:2], (rows, spent)))

    def test_a_session_goes_on_behind_back(self):
        board = filled()
        for _ in range(3):
            board.undo("running")
            self.assertEqual([board.answer("running", 8), board.answer("running", 7)], ["c", None])
            board.back("before")
            self.assertEqual(board.session_of("running").asked, ["b"])
            self.assertEqual(board.answer("running", 1), None)
            self.assertEqual(board.finish("running"), 5)
            board.back("before")

    def test_back_restores_the_amount(self):
        board = filled()
        board.finish("running")
        board.mark("later")
        board.finish("done")
        self.assertEqual(board.spent, 4)
        for label, amount in [("later", 2), ("before", 0), ("later", 2), ("later", 2), ("before", 0)]:
            board.back(label)
            self.assertEqual(board.spent, amount)

    def test_several_marks(self):
        board = Board()
        board.mark("none")
        board.create("main")
        board.mark("one")
        board.create("other")
        board.mark("two")
        for label, names in [("one", ["main"]), ("none", []), ("two", ["main", "other"]), ("none", []),
                             ("one", ["main"])]:
            board.back(label)
            self.assertEqual(board.names, names)
        for label in ("none", "one", "two"):
            self.assertEqual(self.refuse(board, DuplicateName, "mark", label), {"which": label})

    def test_labels_that_equal_names_of_pools(self):
        board = Board()
        board.create("main")
        self.assertIsNone(board.mark("main"))
        self.assertIsNone(board.mark("other"))
        self.assertIsNone(board.create("other"))
        board.drop("main")
        board.back("main")
        self.assertEqual(board.names, ["main"])
        self.refuse(board, UnknownName, "drop", "other")

    def test_mark_with_other_objects(self):
        board = filled()
        for thing in NOT_NAMES:
            self.refuse(board, InvalidName, "mark", thing)
        self.assertEqual(self.refuse(board, DuplicateName, "mark", "before"), {"which": "before"})

    def test_back_with_other_objects(self):
        board = filled()
        for thing in NOT_NAMES + ["running", "idle", "befor", "beforee", "after"]:
            self.refuse(board, UnknownMark, "back", thing)

    def test_a_failed_mark_leaves_the_first_one(self):
        board = filled()
        board.drop("idle")
        self.refuse(board, DuplicateName, "mark", "before")
        board.back("before")
        self.assertIn("idle", board.names)


class Batches(BoardTest):

    def check_one_by_one(self, make, commands):
        """A batch and its commands one by one have the same results, or the same error."""
        board, single, plain = make(), make(), make()
        before, start = shown(board), len(board.log)
        with Unchanged(self, commands):
            ended = outcome(board.batch, commands)
        results, entries = [], []
        for command in commands:
            result = outcome(execute, single, *command)
            results.append(result)
            entries += [command[0], "done" if result[0] == "returned" else "failed"]
            if result[0] != "returned":
                break
        if results and results[-1][0] != "returned":
            self.assertTrue(same(ended, results[-1]))
            self.assertTrue(same(shown(board)[:2], before[:2]))
            self.assertEqual(board.log[start:], ["batch"] + entries + ["failed"])
        else:
            self.assertTrue(same(ended, ("returned", [result for _, result in results])))
            self.assertTrue(same(shown(board)[:2], shown(single)[:2]))
            self.assertEqual(board.log[start:], ["batch"] + entries + ["done"])
        self.assertTrue(same(shown(plain)[:2], before[:2]))

    def test_by_hand(self):
        board = Board()
        results = board.batch([("create", "main"), ("put", "main", "a", 0, 5, 3), ("put", "main", "b", 2, 9),
                               ("begin", "main", "order"), ("answer", "main", 6), ("undo", "main"), ("mark", "here"),
                               ("answer", "main", 6), ("finish", "main"), ("take", "main", "a"), ("drop", "main"),
                               ("back", "here")])
        self.assertTrue(same(results, [None, None, None, "b", None, None, None, None, 1, None, None, None]))
        self.assertEqual([board.pool_of("main").text, board.spent], ["a 0 5 3\nb 2 9 1", 0])
        self.assertEqual(board.log, ["batch", "create", "done", "put", "done", "put", "done", "begin", "done", "answer",
                                     "done", "undo", "done", "mark", "done", "answer", "done", "finish", "done", "take",
                                     "done", "drop", "done", "back", "done", "done"])

    def test_an_empty_batch(self):
        board = filled()
        before, start = shown(board), len(board.log)
        self.assertTrue(same(board.batch([]), []))
        self.assertTrue(same(shown(board)[:2], before[:2]))
        self.assertEqual(board.log[start:], ["batch", "done"])

    def test_put_with_and_without_a_price(self):
        for command in [("put", "idle", "x", 0, 5), ("put", "idle", "x", 0, 5, 7), ("put", "idle", "x", 4, 4, 7),
                        ("put", "idle", "x", 0, 5, 0), ("put", "idle", "x", 0, 5, None),
                        ("put", "idle", "x", 0, 5, True)]:
            self.check_one_by_one(filled, [command])

    def test_one_by_one(self):
        for commands in [
                [("create", "x"), ("create", "x")], [("create", "x"), ("drop", "x"), ("create", "x")],
                [("drop", "running"), ("drop", "running")],
                [("finish", "running"), ("finish", "done"), ("undo", "done")],
                [("finish", "running"), ("drop", "idle"), ("answer", "done", 3)], [("mark", "x"), ("mark", "x")],
                [("back", "before"), ("back", "after")],
                [("undo", "running"), ("answer", "running", 2), ("undo", "idle")],
                [("put", "idle", "x", 3, 3), ("begin", "idle", "order"), ("put", "idle", "y", 3, 3)],
                [("take", "idle", "a"), ("take", "idle", "a")], [("begin", "empty", "worst")]]:
            self.check_one_by_one(filled, commands)
            self.check_one_by_one(filled, commands[:1])

    def test_a_failed_batch_takes_back_everything(self):
        board = filled()
        rows, spent, log = shown(board)
        with self.assertRaises(UnknownName):
            board.batch([("finish", "running"), ("finish", "done"), ("mark", "later"), ("create", "more"),
                         ("put", "idle", "z", 0, 1), ("begin", "idle", "order"), ("drop", "empty"), ("back", "before"),
                         ("undo", "running"), ("drop", "nothing")])
        self.assertTrue(same(shown(board)[:2], (rows, spent)))
        self.assertEqual(board.log[len(log):], [
            "batch", "finish", "done", "finish", "done", "mark", "done", "create", "done", "put", "done",
            "begin", "done", "drop", "done", "back", "done", "undo", "done", "drop", "failed", "failed"])
        self.refuse(board, UnknownMark, "back", "later")
        self.assertIsNone(board.mark("later"))
        self.assertIsNone(board.back("before"))

    def test_a_failed_batch_leaves_the_marks_as_they_are(self):
        board = filled()
        board.drop("idle")
        with self.assertRaises(DuplicateName) as caught:
            board.batch([("mark", "x"), ("drop", "running"), ("mark", "before")])
        self.assertEqual(caught.exception.which, "before")
        self.assertEqual(board.names, ["done", "empty", "running"])
        self.refuse(board, UnknownMark, "back", "x")
        board.back("before")
        self.assertEqual(board.names, ["done", "empty", "idle", "running"])

    def test_the_error_of_the_command(self):
        board = filled()
        for command, error, attributes in [
                (("create", "A"), InvalidName, {}), (("create", "idle"), DuplicateName, {"which": "idle"}),
                (("put", "x", "a", 0, 5), UnknownName, {}), (("put", "idle", "a", 5, 0), InvalidItem, {}),
                (("put", "done", "a", 0, 5), SessionOpen, {}), (("begin", "idle", "x"), InvalidKind, {}),
                (("answer", "idle", 3), NoSession, {}), (("answer", "done", 3), SessionDone, {}),
                (("answer", "running", 99), InvalidValue, {"which": "a"}), (("back", "x"), UnknownMark, {})]:
            rows, spent, log = shown(board)
            kind, told = outcome(board.batch, [("create", "more"), command, ("create", "A")])
            self.assertEqual([kind, told], [error.__name__, attributes])
            self.assertTrue(same(shown(board), (rows, spent, log + [
                "batch", "create", "done", command[0], "failed", "failed"])))

    def test_no_list(self):
        board = filled()
        for thing in ANYTHING + [(("create", "x"),), {"create": "x"}, {0: ("create", "x")}, "create"]:
            if not isinstance(thing, list):
                self.refuse(board, InvalidCommand, "batch", thing)

    def test_items_that_are_no_commands(self):
        wrong = NOT_NAMES + NAMES + [
            "create", "create x", ["create", "x"], {"create": "x"}, ("Create", "x"), ("", "x"), ("batch", []),
            ("batch", [("create", "x")]), ("names",), ("spent",), ("log",), ("copy",), ("pool_of", "idle"),
            ("session_of", "idle"), ("_mark", "x"), ("__init__",), ("run", "create", "x"), (["create"], "x"),
            (("create", "x"),), ("create",), ("create", "x", "y"), ("put", "idle", "x", 0), ("put",),
            ("put", "idle", "x", 0, 5, 1, 1), ("take", "idle"), ("take", "idle", "a", "b"), ("begin", "idle"),
            ("begin", "idle", "order", 1), ("answer", "running"), ("answer", "running", 1, 1), ("undo",),
            ("undo", "running", "x"), ("finish",), ("finish", "running", "x"), ("drop",), ("drop", "idle", "x"),
            ("mark",), ("mark", "x", "y"), ("back",), ("back", "before", "x"), (None, "x"), (0, "x"), (True,), ({},)]
        board = filled()
        for thing in wrong:
            rows, spent, log = shown(board)
            for commands, entries in [([thing], []), ([("create", "x"), thing], ["create", "done"]),
                                      ([("drop", "idle"), thing, ("create", "A")], ["drop", "done"]),
                                      ([thing, ("create", "A")], [])]:
                with Unchanged(self, commands):
                    kind, told = outcome(board.batch, commands)
                with self.subTest(thing=repr(thing)[:100]):
                    self.assertEqual([kind, told], ["InvalidCommand", {}])
                    log = log + ["batch"] + entries + ["failed"]
                    self.assertTrue(same(shown(board), (rows, spent, log)))

    def test_an_error_ahead_of_an_item_that_is_no_command(self):
        board = filled()
        rows, spent, log = shown(board)
        self.assertEqual(outcome(board.batch, [("create", "A"), None])[0], "InvalidName")
        self.assertTrue(same(shown(board), (rows, spent, log + ["batch", "create", "failed", "failed"])))


class Log(BoardTest):

    def test_each_command(self):
        board = Board()
        expected = []
        for command, ending in [
                (("create", "main"), "done"), (("create", "main"), "failed"), (("put", "main", "a", 0, 5), "done"),
                (("put", "main", "a", 5, 0), "failed"), (("put", "main", "b", 3, 9, 4), "done"),
                (("take", "main", "x"), "failed"), (("mark", "x"), "done"), (("begin", "main", "order"), "done"),
                (("answer", "main", 99), "failed"), (("answer", "main", 4), "done"), (("undo", "main"), "done"),
                (("undo", "main"), "failed"), (("finish", "main"), "done"), (("finish", "main"), "failed"),
                (("take", "main", "a"), "done"), (("back", "x"), "done"), (("back", "y"), "failed"),
                (("drop", "main"), "done"), (("drop", "main"), "failed"), (("batch", None), "failed"),
                (("mark", "x"), "failed"), (("begin", "main", "order"), "failed"), (("batch", []), "done")]:
            outcome(execute, board, *command)
            expected += [command[0], ending]
            self.assertEqual(board.log, expected)

    def test_queries_are_not_in_the_log(self):
        board = filled()
        before = board.log
        for _ in range(2):
            board.names, board.spent, board.log, board.copy(), board.pool_of("idle"), board.session_of("running")
            outcome(board.pool_of, "x")
            outcome(board.session_of, "idle")
        self.assertEqual(board.log, before)

    def test_entries_stay_when_a_mark_is_restored(self):
        board = Board()
        board.mark("x")
        board.create("main")
        board.back("x")
        self.assertEqual(board.log, ["mark", "done", "create", "done", "back", "done"])

    def test_new_lists(self):
        board = filled()
        before = shown(board)
        board.log.append("x")
        board.log.clear()
        board.names.append("x")
        board.names.clear()
        self.assertTrue(same(shown(board), before))
        kept = board.log, board.names
        told = (list(kept[0]), list(kept[1]))
        board.create("x")
        board.drop("idle")
        self.assertEqual(kept, told)
        results = board.batch([("create", "y")])
        results.append("x")
        self.assertEqual(board.batch([("create", "z")]), [None])

    def test_properties_are_not_assigned(self):
        board = filled()
        for name in ("names", "spent", "log"):
            with self.assertRaises(AttributeError):
                setattr(board, name, [])

    def test_properties_read_twice(self):
        board = filled()
        board.finish("running")
        self.assertTrue(same([board.names, board.spent, board.log], [board.names, board.spent, board.log]))


class Copies(BoardTest):

    CHANGES = [("answer", "running", 1), ("undo", "running"), ("finish", "done"), ("drop", "idle"), ("drop", "running"),
               ("create", "more"), ("put", "idle", "a", 1, 1), ("take", "idle", "b"), ("begin", "idle", "order"),
               ("mark", "more"), ("back", "before"), ("batch", [("drop", "idle"), ("mark", "y")]),
               ("batch", [("drop", "idle"), ("drop", "idle")])]

    def test_a_copy_has_the_same_content_and_an_empty_log(self):
        board = filled()
        board.finish("running")
        copied = board.copy()
        self.assertIs(copied.__class__, Board)
        self.assertTrue(same(shown(copied), (*shown(board)[:2], [])))
        self.assertEqual([copied.spent, copied.log], [2, []])
        copied.back("before")
        self.assertTrue(same(shown(copied)[:2], shown(filled())[:2]))
        self.assertEqual(copied.log, ["back", "done"])
        self.assertEqual(board.spent, 2)

    def test_no_command_changes_another_board_or_its_marks(self):
        for command in self.CHANGES:
            board = filled()
            copied = board.copy()
            for one, other in [(board, copied), (copied, board)]:
                before = shown(other)
                outcome(execute, one, *command)
                self.assertTrue(same(shown(other), before))
            for each in (board, copied):
                each.back("before")
                self.assertTrue(same(shown(each)[:2], shown(filled())[:2]))

    def test_marks_of_a_copy_are_its_own(self):
        board = filled()
        copied = board.copy()
        board.mark("one")
        copied.mark("two")
        self.refuse(board, UnknownMark, "back", "two")
        self.refuse(copied, UnknownMark, "back", "one")
        board.drop("idle")
        self.assertIsNone(board.mark("two"))
        copied.back("two")
        self.assertIn("idle", copied.names)

    def test_a_copy_of_a_copy(self):
        board = filled()
        first = board.copy()
        first.answer("running", 1)
        second = first.copy()
        second.finish("running")
        self.assertEqual([board.spent, first.spent, second.spent], [0, 0, 5])
        self.assertEqual([each.session_of("running").asked for each in (board, first)], [["b"], ["b", "a"]])
        self.assertEqual(first.log, ["answer", "done"])


class AnyObjects(BoardTest):

    def arguments(self, random):
        return random.choice(["running", "done", "idle", "empty", "more", "before", "a", "b", "order", "least", 3, 5,
                              random.choice(ANYTHING), random.choice(ANYTHING)])

    def test_drawn_commands_with_any_objects(self):
        """[2]: the expected error, the first one if several apply, and nothing changes except the log."""
        counts = {"create": [1], "put": [4, 5], "take": [2], "begin": [2], "answer": [2], "undo": [1], "finish": [1],
                  "drop": [1], "mark": [1], "back": [1], "batch": [1]}
        for seed in range(40):
            random = Random(seed)
            board, plain = Board(), PlainBoard()
            for command in [("create", "running"), ("create", "idle"), ("put", "running", "a", 0, 5, 3),
                            ("put", "running", "b", 2, 9, 2), ("put", "idle", "a", 3, 4), ("begin", "running", "order"),
                            ("mark", "before")]:
                self.assertEqual(outcome(execute, board, *command), outcome(plain.run, *command))
            for _ in range(60):
                word = random.choice(list(counts))
                arguments = [self.arguments(random) for _ in range(random.choice(counts[word]))]
                with Unchanged(self, *arguments):
                    ended = outcome(execute, board, word, *arguments)
                self.assertTrue(same(ended, outcome(plain.run, word, *arguments)))
                self.assertTrue(same(shown(board), plain.shown()))

    def draw_command(self, random):
        name = random.choice(["p", "q", "r"])
        return random.choice([
            ("create", name), ("drop", name), ("mark", random.choice("xyz")), ("back", random.choice("xyz")),
            ("put", name, random.choice("abcd"), *sorted(random.choices(range(-3, 9), k=2)), random.randint(1, 5)),
            ("put", name, random.choice("abcd"), *sorted(random.choices(range(-3, 9), k=2)), random.randint(1, 5)),
            ("put", name, random.choice("abcd"), *sorted(random.choices(range(-3, 9), k=2))),
            ("put", name, random.choice("abcd"), *random.choices(range(-3, 9), k=2), random.randint(0, 5)),
            ("take", name, random.choice("abcd")), ("begin", name, random.choice(["order", "least"])),
            ("begin", name, random.choice(["order", "least"])), ("answer", name, random.randint(-3, 9)),
            ("answer", name, random.randint(-3, 9)), ("answer", name, random.randint(-3, 9)),
            ("answer", name, random.randint(-3, 9)), ("undo", name), ("finish", name)])

    def test_drawn_commands_and_batches(self):
        for seed in range(60):
            random = Random(seed)
            boards = [(Board(), PlainBoard())]
            for name in "pqr"[:random.randint(0, 3)]:
                self.assertEqual(outcome(boards[0][0].create, name), outcome(boards[0][1].run, "create", name))
            for _ in range(60):
                board, plain = random.choice(boards)
                command = self.draw_command(random)
                if random.random() < 0.2:
                    command = ("batch", [self.draw_command(random) for _ in range(random.randint(0, 4))])
                self.assertTrue(same(outcome(execute, board, *command), outcome(plain.run, *command)))
                if random.random() < 0.05:
                    boards.append((board.copy(), plain.copy()))
                for each, other in boards:
                    self.assertTrue(same(shown(each), other.shown()))

    def test_queries_with_any_objects(self):
        board = filled()
        for thing in ANYTHING:
            self.refuse_query(board, UnknownName, board.pool_of, thing)
            self.refuse_query(board, UnknownName, board.session_of, thing)
        for name in board.names:
            self.assertIsInstance(board.pool_of(name), Pool)

    def test_pools_are_equal_to_those_made_by_themselves(self):
        items = [Item(name, least, greatest, price=price) for name, least, greatest, price in THREE]
        self.assertEqual(filled().pool_of("idle"), Pool(*items))
        self.assertEqual(filled().pool_of("running"), Pool(*items).told_by(b=3))


if __name__ == "__main__":
    unittest.main()
