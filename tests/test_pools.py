"""Tests of askranges.pools: [4], [5] and [8]."""

import unittest
from itertools import permutations, product
from random import Random

from askranges.errors import DuplicateName, InvalidPool, InvalidValue, InvalidValues, UnknownName
from askranges.itemtypes import Item
from askranges.pools import Pool
from tests.things import NAMES, NOT_INTEGERS, NOT_NAMES, Unchanged, content, forty_items, parts, same, small_items

A = Item("a", 0, 5, price=3)
B = Item("b", 2, 9)
C = Item.exact("c", 10)
D = Item("d", -4, 0, price=999)
NOT_ITEMS = NOT_NAMES + NAMES + [("a", 0, 5, 1), Pool(), Pool(A), [A], (A, B), {"a": A}]


def expected(items):
    """What content returns for a pool of these items, told from the words of [8] and [9]."""
    names = sorted(item.name for item in items)
    by_name = {item.name: item for item in items}
    walked = sorted(items, key=lambda item: (item.least, item.greatest, item.name))
    pairs = sorted((first.name, second.name) for first in items for second in items
                   if first.name < second.name and not (first.greatest < second.least)
                   and not (second.greatest < first.least) and not (first.is_exact and second.is_exact))
    lines = [f"{item.name} {item.value}" if item.is_exact
             else f"{item.name} {item.least} {item.greatest} {item.price}"
             for item in (by_name[name] for name in names)]
    return (names, len(items), [parts(by_name[name]) for name in names],
            [parts(item) for item in walked], pairs, "\n".join(lines))


def some_items(random, count):
    """Some items with different names, in any order."""
    names = random.sample(["a", "aa", "ab", "b", "ba", "c", "self", "values", "z", "zzzzzzzz"], count)
    items = []
    for name in names:
        least = random.randint(-12, 12)
        items.append(Item(name, least, least + random.choice([0, 0, 1, 2, 3, 9]), price=random.randint(1, 999)))
    return items


class PoolTest(unittest.TestCase):

    def check_kept(self, pool, before):
        self.assertEqual(content(pool), before)


class Content(PoolTest):

    def test_empty(self):
        pool = Pool()
        self.assertEqual(content(pool), ([], 0, [], [], [], ""))
        self.assertEqual(pool, Pool())

    def test_one_item(self):
        for item in (A, B, C, D, Item("self", -1, 1), Item("zzzzzzzz", 5, 5)):
            pool = Pool(item)
            self.assertEqual(content(pool), expected([item]))
            self.assertEqual(pool.names, [item.name])
            self.assertEqual(len(pool), 1)
            self.assertEqual(pool.item(item.name), item)
            self.assertEqual(pool.item(name=item.name), item)
            self.assertEqual(list(pool.walk()), [item])
            self.assertEqual(list(pool.loose_pairs()), [])

    def test_orders_by_hand(self):
        pool = Pool(C, B, D, A)
        self.assertEqual(pool.names, ["a", "b", "c", "d"])
        self.assertEqual(len(pool), 4)
        self.assertEqual(list(pool.walk()), [D, A, B, C])
        self.assertEqual(list(pool.loose_pairs()), [("a", "b"), ("a", "d")])

    def test_walk_goes_by_least_then_greatest_then_name(self):
        items = [Item("f", -10, 3), Item("e", -9, 4), Item("a", 2, 30), Item("b", 2, 4), Item("c", 2, 2),
                 Item("d", 2, 4), Item("aa", 2, 4), Item("g", 10, 11), Item("h", 9, 12)]
        for seed in range(30):
            mixed = list(items)
            Random(seed).shuffle(mixed)
            names = [item.name for item in Pool(*mixed).walk()]
            self.assertEqual(names, ["f", "e", "c", "aa", "b", "d", "a", "h", "g"])

    def test_walk_of_all_pairs_of_small_items(self):
        for first, second in product(small_items("b", 3), small_items("a", 3, price=2)):
            self.assertEqual(content(Pool(first, second)), expected([first, second]))

    def test_names_are_sorted_as_strings(self):
        names = ["b", "a", "ab", "aa", "z", "abcdefgh", "zz"]
        pool = Pool(*[Item.exact(name, 0) for name in names])
        self.assertEqual(pool.names, ["a", "aa", "ab", "abcdefgh", "b", "z", "zz"])

    def test_many_pools(self):
        random = Random(1)
        for _ in range(300):
            items = some_items(random, random.randint(0, 10))
            self.assertEqual(content(Pool(*items)), expected(items))

    def test_forty_items(self):
        items = forty_items()
        self.assertEqual(content(Pool(*items)), expected(items))
        self.assertEqual(len(Pool(*items)), 40)

    def test_any_order_of_making(self):
        pool = Pool(A, B, C, D)
        for items in permutations([A, B, C, D]):
            other = Pool(*items)
            self.assertIs(other == pool, True)
            self.assertEqual(content(other), content(pool))

    def test_names_are_new(self):
        pool = Pool(A, B)
        pool.names.append("c")
        pool.names.clear()
        pool.names.reverse()
        self.assertEqual(pool.names, ["a", "b"])
        self.assertEqual(content(pool), expected([A, B]))

    def test_properties_are_not_assigned(self):
        pool = Pool(A, B)
        for name in ("names", "text"):
            with self.assertRaises(AttributeError):
                setattr(pool, name, "a")
        self.assertEqual(content(pool), expected([A, B]))


class Equality(PoolTest):

    def test_equal_items(self):
        self.assertIs(Pool(A, B) == Pool(B, Item("a", 0, 5, price=3)), True)
        self.assertIs(Pool(C) == Pool(Item("c", 10, 10, price=9)), True)
        self.assertIs(Pool() == Pool(), True)
        self.assertIs(Pool(A, B) != Pool(B, A), False)

    def test_other_items(self):
        pool = Pool(A, B, C)
        others = [
            Pool(), Pool(A), Pool(A, B), Pool(B, C), Pool(A, B, C, D), Pool(A, B, D),
            Pool(Item("a", 0, 5), B, C), Pool(Item("a", 0, 6, price=3), B, C), Pool(Item("a", 1, 5, price=3), B, C),
            Pool(A, B, Item.exact("c", 11)), Pool(A, B, Item("c", 10, 11)), Pool(A, B, Item.exact("d", 10)),
        ]
        for other in others:
            self.assertIs(pool == other, False)
            self.assertIs(other == pool, False)
            self.assertIs(pool != other, True)

    def test_other_kinds(self):
        for pool in (Pool(), Pool(A), Pool(A, B)):
            for other in NOT_NAMES + [A, "a 0 5 3", [A], (A, B), {"a": A}, {"a": A, "b": B}, pool.names]:
                self.assertIs(pool == other, False)
                self.assertIs(other == pool, False)


class Making(PoolTest):

    def test_other_objects(self):
        for thing in NOT_ITEMS:
            for things in ([thing], [thing, A], [A, thing], [A, B, thing], [thing, thing]):
                with self.assertRaises(InvalidPool):
                    Pool(*things)

    def test_arguments_stay(self):
        for thing in NOT_NAMES:
            with Unchanged(self, thing):
                with self.assertRaises(InvalidPool):
                    Pool(thing)
                with self.assertRaises(InvalidPool):
                    Pool(A).with_items(thing)

    def check_duplicate(self, name, *items):
        with self.assertRaises(DuplicateName) as caught:
            Pool(*items)
        self.assertEqual(caught.exception.which, name)

    def test_duplicate_names(self):
        self.check_duplicate("a", A, A)
        self.check_duplicate("a", A, Item("a", 7, 9))
        self.check_duplicate("a", A, Item.exact("a", 7))
        self.check_duplicate("b", A, B, B, A)
        self.check_duplicate("b", A, B, B, C)
        self.check_duplicate("b", A, B, C, B, A)
        self.check_duplicate("a", B, A, C, A, B)
        self.check_duplicate("b", B, A, B, A)
        self.check_duplicate("c", C, C, B, B, A, A)
        self.check_duplicate("a", A, B, A, B, A)

    def test_first_name_that_occurs_a_second_time(self):
        for items in product([A, B, C, Item("a", 1, 2)], repeat=4):
            names = [item.name for item in items]
            again = [name for at, name in enumerate(names) if name in names[:at]]
            self.check_duplicate(again[0], *items)

    def test_other_objects_come_before_duplicate_names(self):
        for thing in NOT_ITEMS:
            with self.assertRaises(InvalidPool):
                Pool(A, A, thing)
            with self.assertRaises(InvalidPool):
                Pool(thing, A, A)
            with self.assertRaises(InvalidPool):
                Pool(A, thing, A)


class Changing(PoolTest):

    def test_add(self):
        pool = Pool(A, C)
        self.assertEqual(content(pool.with_items(B)), expected([A, B, C]))
        self.assertEqual(content(pool.with_items(D, B)), expected([A, B, C, D]))
        self.assertEqual(content(Pool().with_items(D)), expected([D]))
        self.check_kept(pool, expected([A, C]))

    def test_replace(self):
        pool = Pool(A, B, C)
        for other in (Item("b", 2, 9, price=8), Item("b", 20, 30), Item.exact("b", -3), B):
            self.assertEqual(content(pool.with_items(other)), expected([A, other, C]))
            self.check_kept(pool, expected([A, B, C]))

    def test_no_items(self):
        for pool in (Pool(), Pool(A, B)):
            self.assertIs(pool.with_items() == pool, True)

    def test_later_arguments_replace_earlier_ones(self):
        one, two, three = Item("b", 1, 2), Item("b", 3, 4, price=9), Item.exact("b", 7)
        for items in permutations([one, two, three]):
            self.assertEqual(content(Pool(A, B).with_items(*items)), expected([A, items[-1]]))
            self.assertEqual(content(Pool(A).with_items(*items, D)), expected([A, items[-1], D]))
        self.assertEqual(content(Pool().with_items(one, C, two, C)), expected([two, C]))

    def test_with_items_raises_invalid_pool(self):
        pool = Pool(A, B)
        for thing in NOT_ITEMS:
            for things in ([thing], [C, thing], [thing, C], [A, A, thing], [thing, thing]):
                with self.assertRaises(InvalidPool):
                    pool.with_items(*things)
        self.check_kept(pool, expected([A, B]))

    def test_without(self):
        pool = Pool(A, B, C, D)
        self.assertEqual(content(pool.without("a")), expected([B, C, D]))
        self.assertEqual(content(pool.without("c")), expected([A, B, D]))
        self.assertEqual(content(pool.without(name="d")), expected([A, B, C]))
        self.assertEqual(content(pool.without("a").without("d").without("b").without("c")), expected([]))
        self.check_kept(pool, expected([A, B, C, D]))

    def test_without_takes_out_one_of_like_items(self):
        one, two = Item("a", 1, 4), Item("b", 1, 4)
        self.assertEqual(content(Pool(one, two).without("a")), expected([two]))
        self.assertEqual(content(Pool(one, two).without("b")), expected([one]))


class UnknownNames(PoolTest):

    def check_unknown(self, pool, thing):
        before = content(pool)
        for ask in (pool.item, pool.without):
            with Unchanged(self, thing):
                with self.assertRaises(UnknownName):
                    ask(thing)
        self.check_kept(pool, before)

    def test_other_objects(self):
        for pool in (Pool(), Pool(A), Pool(A, B, C)):
            for thing in NOT_NAMES:
                self.check_unknown(pool, thing)

    def test_other_names(self):
        for thing in ("b", "aa", "c", "z", "abc"):
            self.check_unknown(Pool(A), thing)
            self.check_unknown(Pool(Item("ab", 0, 1), Item("ac", 0, 1)), thing)
        self.check_unknown(Pool(), "a")
        self.check_unknown(Pool(A, B).without("a"), "a")

    def test_names_of_the_pool(self):
        pool = Pool(*forty_items())
        for item in forty_items():
            self.assertEqual(pool.item(item.name), item)
            self.assertEqual(pool.without(item.name).names, [name for name in pool.names if name != item.name])


class Generators(PoolTest):

    def test_next(self):
        pool = Pool(C, B, A)
        self.assertEqual(next(pool.walk()), A)
        self.assertEqual(next(pool.loose_pairs()), ("a", "b"))
        walk = pool.walk()
        self.assertEqual([next(walk), next(walk), next(walk), next(walk, None)], [A, B, C, None])

    def test_pairs_are_ascending(self):
        pool = Pool(Item("c", 0, 9), Item("b", 1, 8), Item("a", 2, 7), Item("ab", 3, 6), Item.exact("d", 5),
                    Item.exact("e", 5))
        self.assertEqual(list(pool.loose_pairs()), [
            ("a", "ab"), ("a", "b"), ("a", "c"), ("a", "d"), ("a", "e"), ("ab", "b"), ("ab", "c"), ("ab", "d"),
            ("ab", "e"), ("b", "c"), ("b", "d"), ("b", "e"), ("c", "d"), ("c", "e")])

    def test_pairs_are_tuples(self):
        for pair in Pool(A, B, D).loose_pairs():
            self.assertIs(pair.__class__, tuple)

    def test_walked_again(self):
        pool = Pool(*forty_items())
        pairs, items = expected(forty_items())[4], sorted(
            forty_items(), key=lambda item: (item.least, item.greatest, item.name))
        for _ in range(3):
            self.assertEqual(list(pool.loose_pairs()), pairs)
            self.assertEqual(list(pool.walk()), items)

    def test_walked_within_another_walk(self):
        pool = Pool(A, B, C, D, Item("e", 1, 3))
        pairs = list(pool.loose_pairs())
        self.assertEqual([(one, two) for one in pool.loose_pairs() for two in pool.loose_pairs()],
                         list(product(pairs, pairs)))
        items = list(pool.walk())
        self.assertEqual([[one, two] for one in pool.walk() for two in pool.walk()],
                         [[one, two] for one in items for two in items])
        self.assertEqual([(pair, item.name) for pair in pool.loose_pairs() for item in pool.walk()],
                         [(pair, item.name) for pair in pairs for item in items])

    def test_walks_side_by_side(self):
        pool = Pool(A, B, D, Item("e", 1, 3))
        pairs = list(pool.loose_pairs())
        self.assertEqual(list(zip(pool.loose_pairs(), pool.loose_pairs())), list(zip(pairs, pairs)))


class Told(PoolTest):

    def setUp(self):
        self.pool = Pool(A, B, C, D)
        self.before = content(self.pool)

    def check_told(self, values, items):
        with Unchanged(self, values):
            told = self.pool.told(values)
        self.assertEqual(content(told), expected(items))
        by = self.pool.told_by(**values)
        self.assertEqual(content(by), expected(items))
        self.assertIs(told == by, True)
        self.check_kept(self.pool, self.before)

    def refuse(self, kind, values, which=None):
        with self.subTest(values=repr(values)[:80]):
            with Unchanged(self, values):
                with self.assertRaises(kind) as caught:
                    self.pool.told(values)
            if which is not None:
                self.assertEqual(caught.exception.which, which)
            self.check_kept(self.pool, self.before)

    def refuse_by(self, kind, values, which=None):
        self.refuse(kind, values, which)
        with self.assertRaises(kind) as caught:
            self.pool.told_by(**values)
        if which is not None:
            self.assertEqual(caught.exception.which, which)
        self.check_kept(self.pool, self.before)

    def test_some_items(self):
        self.check_told({}, [A, B, C, D])
        self.check_told({"a": 0}, [Item.exact("a", 0), B, C, D])
        self.check_told({"b": 9, "a": 5}, [Item.exact("a", 5), Item.exact("b", 9), C, D])
        self.check_told({"d": -4, "b": 2, "a": 3}, [Item.exact("a", 3), Item.exact("b", 2), C, Item.exact("d", -4)])

    def test_exact_items(self):
        self.check_told({"c": 10}, [A, B, C, D])
        self.check_told({"c": 10, "a": 1}, [Item.exact("a", 1), B, C, D])
        self.refuse_by(InvalidValue, {"c": 9}, "c")
        self.refuse_by(InvalidValue, {"c": 11}, "c")

    def test_argument_by_name(self):
        self.assertEqual(self.pool.told(values={"a": 1}), self.pool.told_by(a=1))

    def test_all_values_of_small_items(self):
        for first, second in product(small_items("b", 2), small_items("a", 2, price=9)):
            for one, two in product(range(-1, 4), repeat=2):
                values = {"b": one, "a": two}
                refused = [item.name for item in (second, first)
                           if not item.least <= values[item.name] <= item.greatest]
                pool = Pool(first, second)
                if refused:
                    with self.assertRaises(InvalidValue) as caught:
                        pool.told(values)
                    self.assertEqual(caught.exception.which, refused[0])
                else:
                    told = Pool(Item.exact("b", one), Item.exact("a", two))
                    self.assertIs(pool.told(values) == told, True)

    def test_names_that_are_names_of_parameters(self):
        pool = Pool(Item("self", 0, 5), Item("values", 0, 5), Item("if", 0, 5))
        self.assertEqual(pool.told({"self": 3}).item("self"), Item.exact("self", 3))
        self.assertEqual(pool.told_by(values=4).item("values"), Item.exact("values", 4))
        self.assertEqual(pool.told_by(**{"if": 4}).text, "if 4\nself 0 5 1\nvalues 0 5 1")

    def test_forty_items(self):
        values = {item.name: item.greatest for item in forty_items()}
        told = Pool(*forty_items()).told(values)
        self.assertEqual(content(told), expected([Item.exact(name, values[name]) for name in values]))

    def test_no_dict(self):
        for thing in NOT_NAMES + NAMES + [Pool(), A, [("a", 1)], (("a", 1),), ["a", 1], ["a"], ("a", "b")]:
            if not isinstance(thing, dict):
                with self.assertRaises(InvalidValues):
                    self.pool.told(thing)
        for thing in NOT_NAMES:
            if not isinstance(thing, dict):
                self.refuse(InvalidValues, thing)

    def test_keys_that_are_no_strings(self):
        for key in (0, 1, -1, 5, True, False, 10 ** 39):
            self.refuse(InvalidValues, {key: 1})
            self.refuse(InvalidValues, {"a": 1, key: 1})
            self.refuse(InvalidValues, {key: 1, "a": 1})

    def test_keys_that_are_no_names_of_the_pool(self):
        for key in [thing for thing in NOT_NAMES if isinstance(thing, str)] + ["e", "aa", "z", "abc"]:
            self.refuse_by(UnknownName, {key: 1})
            self.refuse_by(UnknownName, {"a": 1, key: 1})
            self.refuse_by(UnknownName, {key: None, "a": 1})

    def test_values_of_other_kinds(self):
        for thing in NOT_INTEGERS + [10 ** 39, -(10 ** 39)]:
            self.refuse_by(InvalidValue, {"a": thing}, "a")
            self.refuse_by(InvalidValue, {"a": 1, "b": thing}, "b")
            self.refuse_by(InvalidValue, {"c": thing, "a": 1}, "c")

    def test_values_next_to_the_range(self):
        self.refuse_by(InvalidValue, {"a": -1}, "a")
        self.refuse_by(InvalidValue, {"a": 6}, "a")
        self.refuse_by(InvalidValue, {"b": 1}, "b")
        self.refuse_by(InvalidValue, {"b": 10}, "b")
        self.refuse_by(InvalidValue, {"d": -5}, "d")
        self.refuse_by(InvalidValue, {"d": 1}, "d")

    def test_smallest_name_whose_value_is_refused(self):
        right, wrong = {"a": 1, "b": 4, "c": 10, "d": 0}, {"a": 7, "b": None, "c": 8, "d": [0]}
        for bad in product([False, True], repeat=4):
            refused = [name for name, is_bad in zip("abcd", bad) if is_bad]
            for names in permutations("abcd"):
                values = {name: wrong[name] if name in refused else right[name] for name in names}
                if refused:
                    self.refuse_by(InvalidValue, values, refused[0])

    def test_order_of_the_errors(self):
        self.refuse(InvalidValues, {"a": None, "e": 1, 3: 1})
        self.refuse(InvalidValues, {3: 1, "e": 1, "a": 99})
        self.refuse(InvalidValues, {"e": 1, 3: None})
        self.refuse(InvalidValues, {"a": 99, 3: None})
        self.refuse_by(UnknownName, {"a": 99, "e": 1})
        self.refuse_by(UnknownName, {"e": 1, "a": 99})
        self.refuse_by(UnknownName, {"b": None, "": [], "a": 99})

    def test_arguments_are_copied(self):
        values = {"a": 1}
        told = self.pool.told(values)
        values["a"] = 2
        values["b"] = 3
        self.assertEqual(told.text, "a 1\nb 2 9 1\nc 10\nd -4 0 999")
        self.assertTrue(same(values, {"a": 2, "b": 3}))


if __name__ == "__main__":
    unittest.main()
