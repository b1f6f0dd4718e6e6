"""Tests of askranges.settling: [6], [12] and [13]."""

import unittest
from itertools import permutations, product
from random import Random

from askranges.errors import InvalidAsked, InvalidValues, UnknownName
from askranges.itemtypes import Item
from askranges.pools import Pool
from askranges.settling import first_loose, needed, settles, witness
from tests import model
from tests.things import (NAMES, NOT_INTEGERS, NOT_NAMES, Unchanged, draw_values, drawn_pools, forty_items, row_items,
                          same, small_items)

POOL = Pool(Item("a", 0, 5), Item("b", 2, 9), Item("c", 7, 12))
VALUES = {"a": 1, "b": 6, "c": 10}
MIXED = Pool(Item("a", 0, 5), Item.exact("b", 3), Item("c", -4, 2), Item.exact("d", 40))
MIXED_VALUES = {"a": 4, "c": -4}
HUGE = 999999999999


def drawn(seed, count, most_items, **more):
    """Drawn pools with values for them, and what draws further."""
    for random, pool in drawn_pools(seed, count, most_items, **more):
        yield random, pool, draw_values(random, pool)


def small_pools():
    """All pools of three small items with all values for each."""
    for items in product(small_items("c", 2), small_items("a", 2), small_items("b", 2)):
        ranges = model.ranges_of(Pool(*items))
        for values in model.all_values(ranges, model.open_of(ranges)):
            yield Pool(*items), values


class Example(unittest.TestCase):

    def test_example_of_13(self):
        pool = Pool(Item('a', 0, 5), Item('b', 2, 9), Item('c', 7, 12))
        values = {'a': 1, 'b': 6, 'c': 10}
        self.assertEqual(
            [needed(pool, values), settles(pool, values, ['b']), settles(pool, values, ['a', 'c'])], [[], True, True])
        self.assertEqual(needed(pool, {'a': 3, 'b': 6, 'c': 10}), ['b'])
        self.assertEqual(first_loose(pool, values, ['a']), ('b', 'c'))


class Needed(unittest.TestCase):

    def check(self, pool, values):
        """Hold needed and witness against the words of [6] and [12]."""
        ranges = model.ranges_of(pool)
        names = model.needed_of(ranges, values)
        with Unchanged(self, pool, values):
            self.assertTrue(same(needed(pool, values), names))
            for name in model.open_of(ranges):
                found = witness(pool, values, name)
                self.assertTrue(same(found, min(model.witnesses_of(ranges, values, name), default=None)))
                self.assertIs(found is None, name not in names)

    def test_no_open_items(self):
        for pool in (Pool(), Pool(Item.exact("a", 3)), Pool(Item.exact("a", 3), Item.exact("b", 3))):
            self.assertTrue(same(needed(pool, {}), []))

    def test_one_item(self):
        for value in (0, 3, 5):
            self.assertEqual(needed(Pool(Item("a", 0, 5)), {"a": value}), [])
            self.assertIsNone(witness(Pool(Item("a", 0, 5)), {"a": value}, "a"))

    def test_arguments_by_name(self):
        self.assertEqual(needed(pool=POOL, values={"a": 3, "b": 6, "c": 10}), ["b"])
        self.assertEqual(witness(pool=POOL, values={"a": 3, "b": 6, "c": 10}, name="b"), "a")
        self.assertEqual(witness(POOL, name="b", values={"a": 3, "b": 6, "c": 10}), "a")

    def test_exact_items(self):
        for value, names in [(-1, []), (0, ["b"]), (3, ["b"]), (5, ["b"]), (6, [])]:
            for own in range(6):
                self.assertEqual(needed(Pool(Item("b", 0, 5), Item.exact("a", value)), {"b": own}), names)
                self.assertEqual(witness(Pool(Item("b", 0, 5), Item.exact("a", value)), {"b": own}, "b"),
                                 "a" if names else None)

    def test_values_at_the_ends(self):
        pool = Pool(Item("a", 0, 5), Item("b", 5, 9))
        for one, two in product(range(6), range(5, 10)):
            names = (["a"] if two == 5 else []) + (["b"] if one == 5 else [])
            self.assertEqual(needed(pool, {"a": one, "b": two}), names)

    def test_the_ranges_that_overlap_do_not_matter_alone(self):
        self.assertEqual(needed(Pool(Item("a", 0, 9), Item("b", 2, 9)), {"a": 1, "b": 5}), ["a"])
        self.assertEqual(needed(Pool(Item("a", 0, 9), Item("b", 2, 12)), {"a": 1, "b": 10}), [])

    def test_smallest_name_of_a_witness(self):
        pool = Pool(Item("c", 0, 9), Item.exact("d", 5), Item("b", 4, 20), Item("a", 8, 30), Item.exact("aa", -1))
        self.assertEqual(witness(pool, {"a": 20, "b": 11, "c": 0}, "c"), "d")
        self.assertEqual(witness(pool, {"a": 20, "b": 9, "c": 0}, "c"), "b")
        self.assertEqual(witness(pool, {"a": 9, "b": 9, "c": 0}, "c"), "a")
        self.assertEqual(witness(pool, {"a": 9, "b": 9, "c": 0}, "a"), "b")
        self.assertIsNone(witness(pool, {"a": 9, "b": 7, "c": 0}, "a"))

    def test_negative_and_large_values(self):
        pool = Pool(Item("a", -HUGE, HUGE), Item("b", -HUGE, 1 - HUGE), Item("c", HUGE - 1, HUGE))
        self.assertEqual(needed(pool, {"a": 0, "b": -HUGE, "c": HUGE}), ["a"])
        self.assertEqual(needed(pool, {"a": -HUGE, "b": -HUGE, "c": HUGE}), ["a", "b"])
        self.assertEqual(needed(pool, {"a": HUGE, "b": 1 - HUGE, "c": HUGE - 1}), ["a", "c"])
        self.assertEqual(witness(pool, {"a": HUGE, "b": 1 - HUGE, "c": HUGE}, "c"), "a")
        for random, drawn_pool, values in drawn(1, 60, 8):
            move = random.choice([-HUGE + 20, HUGE - 20, -1000])
            moved = [Item(item.name, item.least + move, item.greatest + move) for item in drawn_pool.walk()]
            self.check(Pool(*moved), {name: value + move for name, value in values.items()})

    def test_all_pools_of_three_small_items(self):
        for pool, values in small_pools():
            self.check(pool, values)

    def test_drawn_pools(self):
        for random, pool, values in drawn(2, 200, 11):
            self.check(pool, values)
            self.check(pool, draw_values(random, pool))
            self.check(pool, values)

    def test_other_values_of_the_same_pool(self):
        answers = [({"a": 1, "b": 6, "c": 10}, []), ({"a": 3, "b": 6, "c": 10}, ["b"]),
                   ({"a": 1, "b": 5, "c": 7}, ["a", "b"]), ({"a": 1, "b": 7, "c": 9}, ["b", "c"]),
                   ({"a": 1, "b": 6, "c": 10}, [])]
        for values, names in answers + answers:
            self.assertEqual(needed(POOL, values), names)

    def test_forty_items(self):
        for items in (forty_items(), row_items(40, [1] * 40), [Item(item.name, 0, 5) for item in forty_items()]):
            pool = Pool(*items)
            for seed in range(5):
                self.check(pool, draw_values(Random(seed), pool))
        row = Pool(*row_items(40, [1] * 40))
        self.assertEqual(needed(row, {name: row.item(name).least + 7 for name in row.names}), [])
        self.assertEqual(needed(row, {name: row.item(name).least for name in row.names}),
                         sorted(item.name for item in row_items(40, [1] * 40)[:39]))

    def test_new_list(self):
        values = {"a": 3, "b": 6, "c": 10}
        needed(POOL, values).append("x")
        self.assertEqual(needed(POOL, values), ["b"])


class Settling(unittest.TestCase):

    def check(self, pool, values, asked):
        """Hold settles and first_loose against the words of [13]; return what settles returns."""
        expected = model.first_loose_of(model.ranges_of(pool), values, asked)
        with Unchanged(self, pool, values, asked):
            self.assertTrue(same(first_loose(pool, values, asked), expected))
            answer = settles(pool, values, asked)
        self.assertIs(answer, expected is None)
        return answer

    def test_no_open_items(self):
        for pool in (Pool(), Pool(Item.exact("a", 3)), Pool(Item.exact("a", 3), Item.exact("b", 3))):
            for asked in ([], ()):
                self.assertIs(self.check(pool, {}, asked), True)

    def test_arguments_by_name(self):
        self.assertIs(settles(pool=POOL, values=VALUES, asked=["b"]), True)
        self.assertEqual(first_loose(asked=["a"], values=VALUES, pool=POOL), ("b", "c"))

    def test_by_hand(self):
        rows = {"": ("a", "b"), "a": ("b", "c"), "b": None, "c": ("a", "b"), "ab": None, "ac": None, "bc": None,
                "abc": None}
        for asked, pair in rows.items():
            self.assertTrue(same(first_loose(POOL, VALUES, list(asked)), pair))
            self.assertIs(settles(POOL, VALUES, list(asked)), pair is None)
        self.assertEqual(first_loose(MIXED, MIXED_VALUES, ["a"]), None)
        self.assertEqual(first_loose(MIXED, MIXED_VALUES, ["c"]), ("a", "b"))
        self.assertEqual(first_loose(MIXED, {"a": 0, "c": -4}, ["a"]), ("a", "c"))

    def test_equal_values(self):
        pool = Pool(Item("a", 0, 5), Item("b", 3, 9), Item.exact("c", 4))
        self.assertEqual(first_loose(pool, {"a": 4, "b": 4}, ["a"]), ("a", "b"))
        self.assertEqual(first_loose(pool, {"a": 4, "b": 4}, ["b"]), ("a", "b"))
        self.assertIsNone(first_loose(pool, {"a": 4, "b": 4}, ["b", "a"]))

    def test_all_sets_of_small_pools(self):
        for pool, values in small_pools():
            for asked in model.subsets(list(values)):
                self.check(pool, values, asked)

    def test_all_sets_in_any_order_as_lists_and_tuples(self):
        for _, pool, values in drawn(3, 40, 4):
            for chosen in model.subsets(list(values)):
                for asked in permutations(chosen):
                    self.check(pool, values, asked)
                    self.check(pool, values, list(asked))

    def test_forty_items(self):
        for items in (forty_items(), row_items(40, [1] * 40)):
            pool = Pool(*items)
            for seed in range(10):
                random = Random(seed)
                values = draw_values(random, pool)
                for asked in ([], list(values), random.sample(list(values), 15), random.sample(list(values), 25)):
                    self.check(pool, values, asked)

    def test_needed_items_and_one_of_each_two_other_open_items_that_overlap(self):
        """[6]: these are exactly the sets that settle a pool."""
        cases = list(small_pools()) + [(pool, values) for _, pool, values in drawn(4, 150, 6)]
        for pool, values in cases:
            ranges = model.ranges_of(pool)
            always = set(needed(pool, values))
            free = [name for name in model.open_of(ranges) if name not in always]
            pairs = [(one, two) for one in free for two in free if one < two and model.overlap(ranges, one, two)]
            for asked in model.subsets(list(values)):
                expected = always <= set(asked) and all(one in asked or two in asked for one, two in pairs)
                self.assertIs(settles(pool, values, asked), expected)

    def test_all_open_items_settle_and_so_does_a_superset(self):
        for _, pool, values in drawn(5, 60, 5):
            self.assertIs(settles(pool, values, list(values)), True)
            sets = model.subsets(list(values))
            settling = [set(asked) for asked in sets if settles(pool, values, asked)]
            for asked in sets:
                if any(inner <= set(asked) for inner in settling):
                    self.assertIs(settles(pool, values, asked), True)

    def test_all_values_of_the_items_that_were_not_asked(self):
        """[4], [5]: a set settles the pool if no value of the others changes how two items compare."""
        cases = [(pool, values) for _, pool, values in drawn(6, 60, 4, widest=3)]
        for pool, values in cases + list(small_pools())[::7]:
            ranges = model.ranges_of(pool)
            for asked in model.subsets(list(values)):
                known = model.after(ranges, values, asked)
                told = list(model.all_values(known, list(known)))
                unsettled = [(one, two) for one in known for two in known if one < two and len(
                    {(each[one] > each[two]) - (each[one] < each[two]) for each in told}) > 1]
                self.assertIs(settles(pool, values, asked), not unsettled)
                self.assertTrue(same(first_loose(pool, values, asked), min(unsettled, default=None)))


class Errors(unittest.TestCase):

    def refuse(self, kind, ask, *args):
        with self.subTest(ask=ask.__name__, args=repr(args)[:200]):
            with Unchanged(self, *args):
                with self.assertRaises(kind) as caught:
                    ask(*args)
                self.assertIs(caught.exception.__class__, kind)

    def refuse_values(self, pool, values):
        """Refuse them, whatever else is wrong."""
        self.refuse(InvalidValues, needed, pool, values)
        for name in ("a", "d", "zz", None, []):
            self.refuse(InvalidValues, witness, pool, values, name)
        for asked in ([], ("a",), ["d"], ["a", "a"], None):
            self.refuse(InvalidValues, settles, pool, values, asked)
            self.refuse(InvalidValues, first_loose, pool, values, asked)

    def test_values_that_are_no_dict(self):
        for thing in NOT_NAMES + NAMES + [[("a", 1)], ["a", "b", "c"], ("a", "b", "c"), "abc", [1, 6, 10]]:
            self.refuse_values(POOL, thing)
            self.refuse_values(MIXED, thing)
        for thing in NOT_NAMES + NAMES:
            if thing != {}:
                self.refuse_values(Pool(), thing)
                self.refuse_values(Pool(Item.exact("a", 3)), thing)

    def test_values_that_lack_a_name(self):
        for name in VALUES:
            self.refuse_values(POOL, {other: VALUES[other] for other in VALUES if other != name})
            self.refuse_values(POOL, {name: VALUES[name]})
        self.refuse_values(POOL, {})
        self.refuse_values(MIXED, {"a": 4})

    def test_values_with_one_name_too_many(self):
        for key in ["d", "aa", "zzzzzzzz", "", "A", "a ", 0, 1, -1, True, False, 10 ** 39]:
            self.refuse_values(POOL, {**VALUES, key: 6})
            self.refuse_values(POOL, {key: 6, **VALUES})
        self.refuse_values(Pool(), {"a": 1})
        self.refuse_values(Pool(Item.exact("a", 3)), {"a": 3})

    def test_values_for_exact_items(self):
        for value in (3, 2, None):
            self.refuse_values(MIXED, {**MIXED_VALUES, "b": value})
            self.refuse_values(MIXED, {"a": 4, "b": value})

    def test_keys_of_other_kinds(self):
        for key in ["d", "A", "a ", "", 0, 1, True, False, -1, 10 ** 39]:
            for name in VALUES:
                self.refuse_values(POOL, {key if other == name else other: VALUES[other] for other in VALUES})
        self.refuse_values(POOL, {0: 1, 1: 6, 2: 10})

    def test_impossible_values_at_each_place(self):
        for name in VALUES:
            item = POOL.item(name)
            for value in NOT_INTEGERS + [item.least - 1, item.greatest + 1, -HUGE, HUGE, 10 ** 39, -(10 ** 39)]:
                self.refuse_values(POOL, {**VALUES, name: value})

    def test_bools_are_no_values(self):
        pool = Pool(Item("a", 0, 1))
        self.refuse_values(pool, {"a": True})
        self.refuse_values(pool, {"a": False})
        self.assertEqual(needed(pool, {"a": 1}), [])

    def test_values_next_to_the_impossible_ones(self):
        for name in VALUES:
            for value in (POOL.item(name).least, POOL.item(name).greatest):
                values = {**VALUES, name: value}
                self.assertEqual(needed(POOL, values), model.needed_of(model.ranges_of(POOL), values))

    def test_forty_items(self):
        pool = Pool(*forty_items())
        values = draw_values(Random(1), pool)
        for name in list(values)[::7]:
            wrong = [{other: values[other] for other in values if other != name}, {**values, name: None},
                     {**values, name: pool.item(name).greatest + 1}, {**values, "zz": 1}]
            for thing in wrong:
                self.refuse(InvalidValues, needed, pool, thing)

    def test_witness_raises_unknown_name(self):
        for thing in NOT_NAMES + ["d", "aa", "abc", "abcdefgh"]:
            self.refuse(UnknownName, witness, POOL, VALUES, thing)
            self.refuse(UnknownName, witness, Pool(), {}, thing)
        for thing in NOT_NAMES + ["b", "d", "e"]:
            self.refuse(UnknownName, witness, MIXED, MIXED_VALUES, thing)
        self.refuse(UnknownName, witness, Pool(Item.exact("a", 3)), {}, "a")

    def refuse_asked(self, pool, values, asked):
        self.refuse(InvalidAsked, settles, pool, values, asked)
        self.refuse(InvalidAsked, first_loose, pool, values, asked)

    def test_asked_that_are_no_list_or_tuple(self):
        for thing in NOT_NAMES + NAMES + ["a", "ab", "abc", {"a": 1}, {"a": None, "b": None}, dict(VALUES), {}]:
            if not isinstance(thing, (list, tuple)):
                self.refuse_asked(Pool(), {}, thing)
                self.refuse_asked(POOL, VALUES, thing)
                self.refuse_asked(MIXED, MIXED_VALUES, thing)

    def test_asked_of_a_pool_without_these_items(self):
        for thing in NOT_NAMES:
            if isinstance(thing, (list, tuple)) and len(thing) > 0:
                self.refuse_asked(Pool(), {}, thing)
                self.refuse_asked(Pool(Item("q", 0, 5)), {"q": 3}, thing)

    def test_asked_with_an_invalid_item_at_each_place(self):
        for part in NOT_NAMES + ["d", "aa", "abc"]:
            for at in range(4):
                names = ["a", "b", "c"]
                names.insert(at, part)
                for things in (names, [name for name in names if name != "b"], [part]):
                    self.refuse_asked(POOL, VALUES, things)
                    self.refuse_asked(POOL, VALUES, tuple(things))

    def test_asked_with_exact_items(self):
        for things in (["b"], ["a", "b"], ["b", "a"], ["a", "c", "d"], ["d", "b"]):
            self.refuse_asked(MIXED, MIXED_VALUES, things)
            self.refuse_asked(MIXED, MIXED_VALUES, tuple(things))

    def test_asked_with_an_item_twice(self):
        for things in (["a", "a"], ["a", "b", "a"], ["c", "b", "b"], ["a", "b", "c", "c"], ["b", "b", "b", "b"]):
            self.refuse_asked(POOL, VALUES, things)
            self.refuse_asked(POOL, VALUES, tuple(things))

    def test_asked_with_parts_that_contain_the_names(self):
        for things in ([["a"]], [("a", "b")], ["a b"], ["ab"], [["a", "b", "c"]], [{"a": 1}]):
            self.refuse_asked(POOL, VALUES, things)


if __name__ == "__main__":
    unittest.main()
