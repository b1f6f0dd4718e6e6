"""Tests of the texts of pools: [9]."""

import re
import unittest
from itertools import permutations
from random import Random

from askranges.errors import ParseError
from askranges.itemtypes import Item
from askranges.pools import Pool
from tests.things import NOT_STRINGS, Unchanged, forty_items

NUMBER = "(0|-?[1-9][0-9]{0,11})"
LINE = re.compile(f"([a-z]{{1,8}}) {NUMBER}(?: {NUMBER} ([1-9][0-9]{{0,2}}))?")
TEXT = "a 0 5 3\nb 2 9 1\nc 10\nd -40 -7 999\nself -999999999999 999999999999 20\nz 0"


def first_wrong(text):
    """The index of the first line that does not fit, or None: a second way to tell it."""
    before = ""
    for at, line in enumerate(text.split("\n") if text else []):
        found = LINE.fullmatch(line)
        if found is None or found[1] <= before or (found[3] and int(found[2]) >= int(found[3])):
            return at
        before = found[1]
    return None


class TextTest(unittest.TestCase):

    def refuse(self, line, text):
        with self.subTest(text=repr(text)[:200]):
            with Unchanged(self, text):
                with self.assertRaises(ParseError) as caught:
                    Pool.read(text)
            self.assertEqual(caught.exception.line, line)
            self.assertIs(caught.exception.line.__class__, int)

    def accept(self, text):
        with self.subTest(text=repr(text)[:200]):
            self.assertEqual(Pool.read(text).text, text)

    def check(self, text):
        line = first_wrong(text)
        if line is None:
            self.accept(text)
        else:
            self.refuse(line, text)


class Example(TextTest):

    def test_example_of_9(self):
        pool = Pool(Item('b', 2, 9), Item('a', 0, 5, price=3), Item.exact('c', 10))
        self.assertEqual(pool.text, 'a 0 5 3\nb 2 9 1\nc 10')
        self.assertEqual(list(pool.loose_pairs()), [('a', 'b')])
        self.assertEqual(list(pool.told_by(a=1).loose_pairs()), [])
        self.refuse(1, 'a 0 5 3\na 7')


class Reading(TextTest):

    def test_texts(self):
        self.assertEqual(Pool().text, "")
        self.assertEqual(Pool(Item("ab", -3, 7)).text, "ab -3 7 1")
        self.assertEqual(Pool(Item("ab", 4, 4, price=9)).text, "ab 4")
        self.assertEqual(Pool(Item.exact("b", -4), Item("a", -2, -1, price=999)).text, "a -2 -1 999\nb -4")

    def test_read(self):
        pool = Pool.read(TEXT)
        self.assertEqual(pool.names, ["a", "b", "c", "d", "self", "z"])
        self.assertEqual(pool, Pool(
            Item("a", 0, 5, price=3), Item("b", 2, 9), Item.exact("c", 10), Item("d", -40, -7, price=999),
            Item("self", -999999999999, 999999999999, price=20), Item.exact("z", 0)))
        self.assertEqual(Pool.read(text="a 7"), Pool(Item.exact("a", 7)))
        self.assertEqual(Pool(Item("b", 0, 1)).read("a 7"), Pool(Item.exact("a", 7)))

    def test_text_that_ends_behind_any_line(self):
        items = [Pool.read(TEXT).item(name) for name in Pool.read(TEXT).names]
        lines = TEXT.split("\n")
        for many in range(len(lines) + 1):
            text = "\n".join(lines[:many])
            pool = Pool.read(text)
            self.assertEqual(len(pool), many)
            self.assertEqual(pool.text, text)
            self.assertIs(pool == Pool(*items[:many]), True)

    def test_empty_text(self):
        self.assertIs(Pool.read("") == Pool(), True)
        self.assertEqual(Pool.read("").text, "")

    def test_forty_items(self):
        pool = Pool(*forty_items())
        self.assertEqual(len(pool.text.split("\n")), 40)
        self.assertIs(Pool.read(pool.text) == pool, True)
        self.assertEqual(Pool.read(pool.text).text, pool.text)
        lines = pool.text.split("\n")
        for at in range(39):
            self.refuse(at + 1, "\n".join(lines[:at + 1] + [lines[at]] + lines[at + 1:]))

    def test_many_pools(self):
        random = Random(2)
        names = ["a", "aa", "ab", "b", "z", "zz", "abcdefgh", "zzzzzzzz"]
        for _ in range(300):
            items = []
            for name in random.sample(names, random.randint(0, 8)):
                least = random.choice([-1, 1]) * random.randint(0, 10 ** random.randint(0, 11))
                items.append(Item(name, least, least + random.choice([0, 1, 50]), price=random.randint(1, 999)))
            pool = Pool(*items)
            self.assertIsNone(first_wrong(pool.text))
            self.assertIs(Pool.read(pool.text) == pool, True)

    def test_prices(self):
        for price in (1, 9, 10, 99, 100, 998, 999):
            self.assertEqual(Pool.read(f"a 0 1 {price}"), Pool(Item("a", 0, 1, price=price)))


class Refusing(TextTest):

    def test_other_objects(self):
        for thing in NOT_STRINGS + [Pool(), Item("a", 0, 5), ["a 7"], ("a 7",)]:
            with self.assertRaises(ParseError) as caught:
                Pool.read(thing)
            self.assertEqual(caught.exception.line, 0)
        for thing in NOT_STRINGS:
            self.refuse(0, thing)

    def test_by_hand(self):
        for line in (
            " ", "a", "7", "a ", " a 7", "a  7", "a 7 ", "a\t7", "a 7\t", "A 7", "a1 7", "abcdefghi 7", "a b", "a a 7",
            "a 07", "a 00", "a -0", "a +7", "a --7", "a -", "a - 7", "a 7.", "a 7.0", "a 1_0", "a 0x1", "a 1e3", "7 a",
            "a 1000000000000", "a -1000000000000", "a 0000000000001", "a 0 5", "a 0 5 3 ", "a 0 5 3 1", "a 0 5 3 1 1",
            "a 5 5 3", "a 5 4 3", "a -4 -5 3", "a 10 9 1", "a 0 5 0", "a 0 5 1000", "a 0 5 -1", "a 0 5 03", "a 0 5 +3",
            "a 0 5 x", "a 0 5 -0", "a 00 5 3", "a 0 05 3", "a -0 5 3", "a 0 +5 3", "a 0 x 3", "a x 5 3", "a 0  5 3",
            "a 0 1000000000000 3", "a -1000000000000 5 3", "a 0 5 1000000000001", "a None", "a True", "a 0 5 True",
            "-", "-7", "a 7 b 8", "a, 7", "a 7,", "a 0 5 3;", "z", "zz zz",
        ):
            self.refuse(0, line)
            self.refuse(0, line + "\nz 7")
            self.refuse(1, "a 0 5 3\n" + line.replace("a", "b", 1))
            self.refuse(2, "aa 1\nab 2\n" + line.replace("a", "b", 1) + "\nzz 7")

    def test_next_to_the_faults(self):
        for line in ("a 999999999999", "a -999999999999", "a 100000000000", "a 0", "a 7", "a -1", "a 0 1 1",
                     "a -1 0 999", "a -999999999999 999999999999 999", "abcdefgh 5", "a 9 10 100", "a -5 -4 10"):
            self.accept(line)

    def test_empty_lines(self):
        self.refuse(0, "\n")
        self.refuse(0, "\n\n")
        self.refuse(0, "\na 7")
        self.refuse(1, "a 7\n")
        self.refuse(1, "a 7\n\nb 8")
        self.refuse(2, "a 7\nb 8\n")
        self.refuse(2, "a 7\nb 8\n\n")

    def test_names_that_do_not_ascend(self):
        self.refuse(1, "a 7\na 7")
        self.refuse(1, "b 7\na 8")
        self.refuse(1, "aa 7\na 8")
        self.refuse(1, "a 7\na 0 5 3\nb 8")
        self.refuse(2, "a 7\nb 8\na 9")
        self.refuse(2, "b 7\nc 8\na 9\nA")
        self.refuse(1, "zzzzzzzz 7\nzzzzzzzz 8")
        self.accept("a 9\naa 8\nb 7")

    def test_first_of_several_faults(self):
        self.refuse(0, "A 7\nb 8\nb 9")
        self.refuse(1, "a 7\na 8\nC 9")
        self.refuse(1, "a 7\nb 08\na 9\n")

    def test_lines_exchanged_left_out_and_doubled(self):
        lines = TEXT.split("\n")
        for order in permutations(lines[:5]):
            self.check("\n".join(order))
        for at in range(len(lines)):
            self.accept("\n".join(lines[:at] + lines[at + 1:]))
            self.refuse(at + 1, "\n".join(lines[:at + 1] + lines[at:]))
            for to in range(len(lines)):
                mixed = list(lines)
                mixed[at], mixed[to] = mixed[to], mixed[at]
                self.check("\n".join(mixed))
                self.check("\n".join(lines[:to] + [lines[at]] + lines[to:]))

    def test_words_exchanged(self):
        words = ["", "a", "c", "zz", "abcdefghi", "B", "0", "5", "-5", "7", "1000", "999", "00", "05", "-0", "+5", "-",
                 "1000000000000", "999999999999", "-1000000000000", "-999999999999", "a 7", "5 5", "9 8", "5 9 3",
                 "5 9", "5\n5", "5\nbb 5"]
        lines = [line.split(" ") for line in TEXT.split("\n")]
        for at, line in enumerate(lines):
            for place in range(len(line)):
                for word in words:
                    changed = line[:place] + [word] + line[place + 1:]
                    self.check("\n".join(" ".join(each) for each in lines[:at] + [changed] + lines[at + 1:]))
                    inserted = line[:place] + [word] + line[place:]
                    self.check("\n".join(" ".join(each) for each in lines[:at] + [inserted] + lines[at + 1:]))
                for to in range(len(line)):
                    mixed = list(line)
                    mixed[place], mixed[to] = mixed[to], mixed[place]
                    self.check("\n".join(" ".join(each) for each in lines[:at] + [mixed] + lines[at + 1:]))

    def test_characters_inserted_removed_and_exchanged(self):
        for at in range(len(TEXT) + 1):
            self.check(TEXT[:at] + TEXT[at + 1:])
            self.check(TEXT[:at])
            for sign in " \n\t-+0159abzAZ_.,/:`{":
                self.check(TEXT[:at] + sign + TEXT[at:])
                self.check(TEXT[:at] + sign + TEXT[at + 1:])

    def test_long_texts(self):
        self.refuse(0, "a" * 5000)
        self.refuse(0, "a " + "7" * 5000)
        self.refuse(0, " " * 5000)
        self.refuse(0, "\n" * 5000)
        self.refuse(1, "a 7\n" * 1000)


if __name__ == "__main__":
    unittest.main()
