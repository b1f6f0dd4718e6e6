"""Tests of askranges.errors: [2] and the interface."""

import unittest

from askranges import errors
from askranges.errors import AskError, DuplicateName, InvalidValue, NotSettled, ParseError

WITH_STRING = [
    "InvalidItem", "InvalidPool", "UnknownName", "InvalidValues", "InvalidOrder", "InvalidAsked", "InvalidSplit",
    "DoesNotFit", "SessionDone", "NothingToUndo", "NotDone", "InvalidLimit", "InvalidCount", "InvalidName",
    "SessionOpen", "InvalidKind", "NoSession", "UnknownMark", "InvalidCommand", "InvalidLine",
]


def one_of_each():
    made = [getattr(errors, name)("some words") for name in WITH_STRING]
    return made + [InvalidValue("a"), DuplicateName("a"), NotSettled("a", "b"), ParseError(3)]


class Kinds(unittest.TestCase):

    def test_all_names_are_there(self):
        self.assertEqual(len(one_of_each()), 24)
        for name in WITH_STRING:
            self.assertEqual(getattr(errors, name).__name__, name)

    def test_base(self):
        self.assertEqual(AskError.__bases__, (ValueError,))
        self.assertIsInstance(AskError("some words"), ValueError)

    def test_each_is_an_ask_error_and_a_value_error(self):
        for error in one_of_each():
            with self.subTest(kind=error.__class__.__name__):
                self.assertIsInstance(error, AskError)
                self.assertIsInstance(error, ValueError)
                self.assertEqual(error.__class__.__bases__, (AskError,))

    def test_each_is_an_instance_of_its_own_class_only(self):
        for error in one_of_each():
            for other in one_of_each():
                if error.__class__.__name__ != other.__class__.__name__:
                    self.assertNotIsInstance(error, other.__class__)

    def test_each_can_be_raised_and_caught_by_its_name(self):
        for error in one_of_each():
            with self.subTest(kind=error.__class__.__name__):
                with self.assertRaises(error.__class__) as caught:
                    raise error
                self.assertIs(caught.exception, error)
                self.assertIsInstance(str(error), str)


class Attributes(unittest.TestCase):

    def test_which(self):
        for kind in (InvalidValue, DuplicateName):
            self.assertEqual(kind("a").which, "a")
            self.assertEqual(kind("zzzzzzzz").which, "zzzzzzzz")
            self.assertEqual(kind(which="b").which, "b")

    def test_first_and_second(self):
        for error in (NotSettled("a", "b"), NotSettled(first="a", second="b"), NotSettled(second="b", first="a"),
                      NotSettled("a", second="b")):
            self.assertEqual([error.first, error.second], ["a", "b"])
        error = NotSettled("d", "c")
        self.assertEqual([error.first, error.second], ["d", "c"])

    def test_line(self):
        for line in (0, 1, 39, 5000):
            self.assertEqual(ParseError(line).line, line)
            self.assertEqual(ParseError(line=line).line, line)
            self.assertIsInstance(ParseError(line).line, int)

    def test_objects_do_not_share_their_attributes(self):
        first, second = InvalidValue("a"), InvalidValue("b")
        self.assertEqual([first.which, second.which], ["a", "b"])
        first, second = ParseError(1), ParseError(2)
        self.assertEqual([first.line, second.line], [1, 2])


if __name__ == "__main__":
    unittest.main()
