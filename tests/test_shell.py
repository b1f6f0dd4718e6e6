"""Tests of askranges.shell: [24] and [26]."""

import unittest
from random import Random

from askranges.errors import (DuplicateName, InvalidItem, InvalidKind, InvalidLine, InvalidName, InvalidValue,
                              NoSession, NothingToUndo, SessionDone, SessionOpen, UnknownMark, UnknownName)
from askranges.shell import Shell
from tests import model
from tests.plainboard import PlainBoard, outcome
from tests.things import NAMES, NOT_NAMES, refuse, same

# One line of each form, which all can be executed on a shell that is filled.
LINES = ["create x", "put idle x -3 5 7", "put idle x -3", "take idle a", "undo running", "drop idle", "mark x",
         "back before", "begin idle least", "answer running 1", "finish running", "show idle", "order idle",
         "least idle", "spent", "names"]
WORDS = ["create", "put", "take", "undo", "drop", "mark", "back", "begin", "answer", "finish", "show", "order", "least",
         "spent", "names", "done", "ok", "batch", "log", "copy"]
NO_INTEGERS = ["+3", "03", "-03", "-0", "00", "0x3", "3.0", "3,", "1e3", "1_0", "--3", "-", "3-", "x", "-x", "one",
               "1234567890123", "-1234567890123", "0000000000003", "9" * 40, "3\t", "3\n", "\t3", "None", "True", "()"]


def filled():
    """A shell with a pool that has a session, one that has none, and one without items."""
    shell = Shell()
    for line in ["create running", "create idle", "create empty", "put running a 0 5 3", "put running b 2 9 2",
                 "put running c 7 12 1", "put idle a 0 5 3", "put idle b 6", "begin running order", "answer running 3",
                 "mark before"]:
        shell.run(line)
    return shell


def shown(shell, names=("running", "idle", "empty", "x", "more")):
    """All that the lines that change nothing say, or the errors that they raise."""
    asked = ["spent", "names"] + [f"{word} {name}" for word in ("show", "order", "least") for name in names]
    return [outcome(shell.run, line) for line in asked]


class PlainShell:
    """The shell of [26], told a second time over the plain board, for lines that are lines by their words."""

    def __init__(self):
        self.board = PlainBoard()

    def run(self, line):
        word, *rest = line.split(" ")
        if word in ("spent", "names"):
            return str(self.board.kept["spent"]) if word == "spent" else " ".join(sorted(self.board.pools)) or "-"
        if word == "show":
            self.board.pool(rest[0])
            return " / ".join(self.board.text(rest[0]).split("\n")) or "-"
        if word in ("order", "least"):
            ranges = {item: part[:2] for item, part in self.board.pool(rest[0]).items()}
            if word == "least":
                return model.sure_least_of(ranges) or "-"
            order = model.sure_order_of(ranges)
            return f"? {order[0]} {order[1]}" if isinstance(order, tuple) else " ".join(order) or "-"
        if word == "put":
            ends = [int(each) for each in rest[2:]]
            result = self.board.run("put", *rest[:2], *(ends * 2 if len(ends) == 1 else ends))
        elif word == "answer":
            result = self.board.run("answer", rest[0], int(rest[1]))
        else:
            result = self.board.run(word, *rest)
        if result is None:
            return "done" if word in ("begin", "answer") else "ok"
        return str(result)


class ShellTest(unittest.TestCase):

    def check(self, shell, rows):
        for line, answer in rows:
            self.assertTrue(same(shell.run(line), answer), line)

    def refuse(self, shell, error, line):
        """Raise this error, with which nothing changes that the shell shows; return it."""
        before = shown(shell)
        raised = refuse(self, error, shell.run, line)
        self.assertTrue(same(shown(shell), before))
        return raised


class Example(unittest.TestCase):

    def test_example_of_26(self):
        shell = Shell()
        self.assertEqual([shell.run('create main'), shell.run('put main a 0 5 3'), shell.run('put main b 2 9 1')],
                         ['ok', 'ok', 'ok'])
        self.assertEqual([shell.run('order main'), shell.run('begin main order'), shell.run('answer main 6')],
                         ['? a b', 'b', 'done'])
        self.assertEqual([shell.run('finish main'), shell.run('order main'), shell.run('show main')],
                         ['1', 'a b', 'a 0 5 3 / b 6'])


class Answers(ShellTest):

    def test_a_new_shell(self):
        self.check(Shell(), [("names", "-"), ("spent", "0")])

    def test_each_line(self):
        answers = ["ok"] * 8 + ["done", "done", "2", "a 0 5 3 / b 6", "a b", "a", "0", "empty idle running"]
        self.assertEqual(len(answers), len(LINES))
        for line, answer in zip(LINES, answers):
            self.check(filled(), [(line, answer)])

    def test_an_empty_pool(self):
        self.check(Shell(), [("create main", "ok"), ("show main", "-"), ("order main", "-"), ("least main", "-"),
                             ("begin main order", "done"), ("show main", "-"), ("finish main", "0"),
                             ("begin main least", "done"), ("finish main", "0"), ("names", "main"),
                             ("drop main", "ok"), ("names", "-")])

    def test_put_and_take(self):
        self.check(Shell(), [
            ("create main", "ok"), ("put main b 2 9 4", "ok"), ("show main", "b 2 9 4"), ("put main a -5", "ok"),
            ("show main", "a -5 / b 2 9 4"), ("put main b -9 -2 999", "ok"), ("show main", "a -5 / b -9 -2 999"),
            ("put main c 3 3 7", "ok"), ("show main", "a -5 / b -9 -2 999 / c 3"), ("put main c 0", "ok"),
            ("show main", "a -5 / b -9 -2 999 / c 0"), ("take main b", "ok"), ("show main", "a -5 / c 0"),
            ("put main d -999999999999 999999999999 1", "ok"),
            ("show main", "a -5 / c 0 / d -999999999999 999999999999 1"), ("put main c 999999999999", "ok"),
            ("put main a -999999999999", "ok"),
            ("show main", "a -999999999999 / c 999999999999 / d -999999999999 999999999999 1")])

    def test_sessions(self):
        self.check(filled(), [
            ("show running", "a 0 5 3 / b 3 / c 7 12 1"), ("order running", "? a b"), ("least running", "-"),
            ("answer running 1", "done"), ("order running", "a b c"), ("least running", "a"), ("spent", "0"),
            ("undo running", "ok"), ("order running", "? a b"), ("answer running 4", "done"), ("least running", "b"),
            ("order running", "b a c"), ("finish running", "5"), ("spent", "5"), ("order running", "b a c"),
            ("begin running order", "done"), ("finish running", "0"), ("spent", "5"), ("show idle", "a 0 5 3 / b 6"),
            ("begin idle order", "done"), ("finish idle", "0"), ("put idle b 5", "ok"), ("begin idle least", "a"),
            ("answer idle 5", "done"), ("least idle", "a"), ("finish idle", "3"), ("spent", "8")])

    def test_a_least_session(self):
        self.check(Shell(), [
            ("create main", "ok"), ("put main a 0 5 3", "ok"), ("put main b 2 9 2", "ok"), ("put main c 4 12 1", "ok"),
            ("begin main least", "b"), ("answer main 8", "a"), ("answer main 5", "c"), ("answer main 12", "done"),
            ("least main", "a"), ("order main", "a b c"), ("undo main", "ok"), ("undo main", "ok"),
            ("least main", "-"), ("order main", "? a c"), ("undo main", "ok"), ("order main", "? a b"),
            ("finish main", "0")])

    def test_marks(self):
        self.check(filled(), [
            ("mark running", "ok"), ("drop running", "ok"), ("names", "empty idle"), ("back before", "ok"),
            ("names", "empty idle running"), ("finish running", "2"), ("mark later", "ok"), ("back running", "ok"),
            ("spent", "0"), ("answer running 1", "done"), ("back later", "ok"), ("spent", "2"),
            ("show running", "a 0 5 3 / b 3 / c 7 12 1")])

    def test_names_that_are_words_of_the_shell(self):
        shell = Shell()
        for word in WORDS:
            self.check(shell, [(f"create {word}", "ok"), (f"put {word} {word} 0 5 3", "ok"), (f"mark {word}", "ok"),
                               (f"show {word}", f"{word} 0 5 3"), (f"order {word}", word), (f"least {word}", word),
                               (f"put {word} a 3", "ok"), (f"begin {word} order", word),
                               (f"order {word}", f"? a {word}"), (f"answer {word} 4", "done"), (f"undo {word}", "ok"),
                               (f"finish {word}", "0"), (f"take {word} {word}", "ok"), (f"take {word} a", "ok"),
                               (f"show {word}", "-")])
        self.check(shell, [("names", " ".join(sorted(WORDS))), ("drop names", "ok"), ("back copy", "ok"),
                           ("show copy", "copy 0 5 3"), ("names", " ".join(sorted(WORDS)))])

    def test_an_item_that_is_called_done(self):
        self.check(Shell(), [("create done", "ok"), ("put done done 0 5 1", "ok"), ("put done e 3 9 2", "ok"),
                             ("begin done least", "done"), ("answer done 4", "e"), ("answer done 9", "done"),
                             ("least done", "done")])

    def test_order_of_items_with_equal_values(self):
        self.check(Shell(), [("create main", "ok"), ("put main b 3", "ok"), ("put main a 3", "ok"),
                             ("put main c 2", "ok"), ("order main", "c a b"), ("least main", "c")])

    def test_argument_by_name(self):
        self.assertEqual(Shell().run(line="spent"), "0")

    def test_shells_are_independent(self):
        one, other = Shell(), Shell()
        self.check(one, [("create main", "ok"), ("mark main", "ok")])
        self.check(other, [("names", "-"), ("create main", "ok"), ("drop main", "ok")])
        self.check(one, [("names", "main")])
        self.refuse(other, UnknownMark, "back main")

    def test_lines_that_ask_change_nothing(self):
        shell = filled()
        before = shown(shell)
        self.assertTrue(same(shown(shell), before))

    def test_drawn_lines(self):
        for seed in range(60):
            random = Random(seed)
            shell, plain = Shell(), PlainShell()
            for line in ["create p", "create q"][:random.randint(0, 2)]:
                self.assertEqual(shell.run(line), plain.run(line))
            for _ in range(80):
                name, item, number = random.choice(["p", "q"]), random.choice("abcd"), random.randint(-3, 9)
                line = random.choice([
                    f"create {name}",
                    f"put {name} {item} {number} {number + random.randint(-1, 6)} {random.randint(0, 4)}",
                    f"put {name} {item} {number} {number + 4} 2", f"put {name} {item} {number}", f"take {name} {item}",
                    f"undo {name}", f"drop {name}", f"mark {item}", f"back {item}", f"begin {name} order",
                    f"begin {name} least", f"begin {name} {item}", f"answer {name} {number}", f"answer {name} {number}",
                    f"answer {name} {number}", f"finish {name}", f"show {name}", f"order {name}", f"least {name}",
                    "spent", "names"])
                self.assertTrue(same(outcome(shell.run, line), outcome(plain.run, line)), line)
                self.assertTrue(same(shown(shell, ("p", "q")), shown(plain, ("p", "q"))))


class InvalidLines(ShellTest):

    def test_no_strings(self):
        shell = filled()
        for thing in NOT_NAMES + NAMES + [["spent"], ("names",), {"spent": 1}, ["create x"], ["create", "x"]]:
            if thing != "spent" and thing != "names":
                self.refuse(shell, InvalidLine, thing)

    def test_blanks(self):
        shell = filled()
        for line in LINES:
            for wrong in [" " + line, line + " ", "  " + line, line + "  ", line.replace(" ", "  "), " ",
                          line.replace(" ", "  ", 1), line.replace(" ", "\t"), line.replace(" ", ""), line + " -"]:
                if wrong != line:
                    self.refuse(shell, InvalidLine, wrong)

    def test_a_word_added(self):
        shell = filled()
        for line in LINES:
            words = line.split(" ")
            for at in range(len(words) + 1):
                for word in ("x", "3", "idle"):
                    wrong = " ".join(words[:at] + [word] + words[at:])
                    self.refuse(shell, InvalidLine, wrong)

    def test_a_word_removed(self):
        shell = filled()
        for line in LINES:
            words = line.split(" ")
            for at in range(len(words)):
                self.refuse(shell, InvalidLine, " ".join(words[:at] + words[at + 1:]))

    def test_a_word_that_is_empty(self):
        shell = filled()
        for line in LINES:
            words = line.split(" ")
            for at in range(len(words)):
                self.refuse(shell, InvalidLine, " ".join(words[:at] + [""] + words[at + 1:]))

    def test_the_first_word_replaced(self):
        shell = filled()
        for line in LINES:
            words = line.split(" ")
            for word in ["x", "Create", "PUT", "batch", "copy", "log", "pool_of", "session_of", "names", "spent", "-"]:
                wrong = " ".join([word] + words[1:])
                if wrong not in LINES:
                    self.refuse(shell, InvalidLine, wrong)

    def test_numbers(self):
        shell = filled()
        for word in NO_INTEGERS:
            for line in ["answer running {}", "put idle x {}", "put idle x {} 5 7", "put idle x -3 {} 7",
                         "put idle x -3 5 {}", "put idle x {} {} {}"]:
                self.refuse(shell, InvalidLine, line.replace("{}", word))

    def test_invalid_lines_come_ahead_of_all_other_errors(self):
        shell = filled()
        for line in ["answer nothing 03", "answer A x", "answer idle +3", "put nothing x 3 x 1", "put A a 5 0 -0",
                     "put running x 03", "create", "create A B", "create running x", "drop nothing x", "back x y",
                     "begin nothing", "begin running worst x", "show", "show nothing x", "order nothing x", "least"]:
            self.refuse(shell, InvalidLine, line)


class BoardErrors(ShellTest):

    def test_each_error(self):
        shell = filled()
        shell.run("begin idle least")
        shell.run("create more")
        for error, lines in [
                (InvalidName, ["create A", "create a1", "create abcdefghi", "create -", "mark A", "mark 3", "mark a-b",
                               "create a\tb", "create a\n", "mark \n"]),
                (DuplicateName, ["create idle", "mark before"]),
                (UnknownName, ["put x a 3", "put x A 3", "put A a 5 0 0", "take x a", "take more a", "take idle x",
                               "take idle A", "take running x", "begin x order", "begin x worst", "answer x 3",
                               "undo x", "finish x", "drop x", "drop A", "show x", "order x", "least x", "show A",
                               "order A", "least -", "show before"]),
                (InvalidItem, ["put more A 3", "put more abcdefghi 3", "put more a 5 4 1", "put more a 0 5 0",
                               "put more a 0 5 1000", "put more a 0 5 -1", "put running a 5 4 1", "put more a 5 5 0",
                               "put more a 5 5 1000", "put running A 3"]),
                (SessionOpen, ["put running a 3", "put idle x 0 5 1", "take running a", "begin running order",
                               "begin idle least"]),
                (InvalidKind, ["begin more worst", "begin running Order", "begin idle smallest", "begin more 3"]),
                (NoSession, ["answer more 3", "undo more", "finish more", "answer empty -5"]),
                (SessionDone, ["answer idle 3"]),
                (InvalidValue, ["answer running 6", "answer running -1", "answer running 999999999999"]),
                (NothingToUndo, ["undo idle"]),
                (UnknownMark, ["back x", "back A", "back running", "back -"])]:
            for line in lines:
                self.refuse(shell, error, line)

    def test_attributes(self):
        shell = filled()
        self.assertEqual(self.refuse(shell, DuplicateName, "create idle").which, "idle")
        self.assertEqual(self.refuse(shell, DuplicateName, "mark before").which, "before")
        self.assertEqual(self.refuse(shell, InvalidValue, "answer running 6").which, "a")


if __name__ == "__main__":
    unittest.main()
