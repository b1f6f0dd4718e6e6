"""Tests of [4], [6], [10] and [12] to [16] on pools that are mirrored or stretched."""

import unittest
from random import Random

from askranges.certificates import certificate, check_certificate
from askranges.cheapest import cheapest, paths
from askranges.itemtypes import Item
from askranges.pools import Pool
from askranges.settling import needed, settles, witness
from askranges.sorting import rank_pairs, ranks
from tests import model
from tests.things import draw_values, drawn_values, forty_items, row_items, wide_items


def stretched(pool, values, factor, shift):
    """The pool and the values in which each value v is factor * v + shift."""
    items = []
    for item in pool.walk():
        ends = sorted([factor * item.least + shift, factor * item.greatest + shift])
        items.append(Item.exact(item.name, ends[0]) if item.is_exact else Item(item.name, *ends, price=item.price))
    return Pool(*items), {name: factor * value + shift for name, value in values.items()}


def cases():
    yield from drawn_values(1, 150, 7)
    yield from drawn_values(2, 100, 8, most=30, widest=14)
    yield from drawn_values(3, 40, 7, most=3, widest=12)
    for count in (1, 2, 5, 9):
        items = row_items(count, [7, 2, 5, 3, 9, 4, 6, 8, 1][:count])
        yield Pool(*items), {item.name: item.least + 7 for item in items}
        yield Pool(*items), draw_values(Random(count), Pool(*items))


def large_cases():
    for items in (forty_items(), row_items(40, list(range(1, 41))), wide_items(40)):
        for seed in range(5):
            yield Pool(*items), draw_values(Random(seed), Pool(*items))
    items = row_items(40, list(range(1, 41)))
    yield Pool(*items), {item.name: item.least + 7 for item in items}


class MirrorsTest(unittest.TestCase):

    def check_same(self, pool, values, other, others):
        """What a pool has in common with a mirrored or stretched one."""
        self.assertEqual(list(other.loose_pairs()), list(pool.loose_pairs()))
        self.assertEqual(needed(other, others), needed(pool, values))
        for name in values:
            self.assertEqual(witness(other, others, name), witness(pool, values, name))
        price, asked = cheapest(pool, values)
        self.assertEqual(cheapest(other, others)[0], price)
        self.assertIs(settles(other, others, asked), True)
        self.assertIs(settles(pool, values, cheapest(other, others)[1]), True)
        found, mirrored = certificate(pool, values), certificate(other, others)
        self.assertEqual(sum(amount for _, _, amount in found), sum(amount for _, _, amount in mirrored))
        for bar in (price, price + 1):
            self.assertIs(check_certificate(other, others, found, bar), bar == price)
            self.assertIs(check_certificate(pool, values, mirrored, bar), bar == price)

    def check_settling_sets(self, pool, values, other, others):
        for asked in model.subsets(list(values)):
            self.assertIs(settles(other, others, asked), settles(pool, values, asked))

    def check_mirrored(self, pool, values, other, others):
        self.check_same(pool, values, other, others)
        self.assertEqual(paths(other, others), [path[::-1] for path in paths(pool, values)][::-1])
        for name in pool.names:
            first, last = ranks(pool, name)
            self.assertEqual(ranks(other, name), (len(pool) - 1 - last, len(pool) - 1 - first))

    def check_stretched(self, pool, values, other, others):
        self.check_same(pool, values, other, others)
        self.assertEqual(paths(other, others), paths(pool, values))
        self.assertEqual(list(rank_pairs(other)), list(rank_pairs(pool)))


class Mirrored(MirrorsTest):

    def test_by_hand(self):
        pool = Pool(Item("a", 0, 5), Item("b", 2, 9, price=4), Item("c", 7, 12))
        other, others = stretched(pool, {"a": 1, "b": 6, "c": 10}, -1, 0)
        self.assertEqual(other.text, "a -5 0 1\nb -9 -2 4\nc -12 -7 1")
        self.assertEqual(paths(other, others), [["c", "b", "a"]])
        self.assertEqual(cheapest(other, others), (2, ["a", "c"]))
        self.assertEqual(certificate(other, others), [("a", "b", 1), ("b", "c", 1)])
        self.assertEqual([ranks(other, name) for name in "abc"], [(1, 2), (0, 2), (0, 1)])

    def test_cases(self):
        for pool, values in cases():
            self.check_mirrored(pool, values, *stretched(pool, values, -1, 0))
            self.check_settling_sets(pool, values, *stretched(pool, values, -1, 0))

    def test_forty_items(self):
        for pool, values in large_cases():
            self.check_mirrored(pool, values, *stretched(pool, values, -1, 0))

    def test_twice(self):
        for pool, values in cases():
            other, others = stretched(*stretched(pool, values, -1, 0), -1, 0)
            self.assertEqual(other, pool)
            self.assertEqual([paths(other, others), certificate(other, others), cheapest(other, others)],
                             [paths(pool, values), certificate(pool, values), cheapest(pool, values)])


class Stretched(MirrorsTest):

    def test_cases(self):
        for pool, values in cases():
            for factor, shift in [(3, 7), (1000, -1)]:
                self.check_stretched(pool, values, *stretched(pool, values, factor, shift))
                self.check_settling_sets(pool, values, *stretched(pool, values, factor, shift))

    def test_forty_items(self):
        for pool, values in large_cases():
            for factor, shift in [(3, 7), (1000, -1)]:
                self.check_stretched(pool, values, *stretched(pool, values, factor, shift))

    def test_mirrored_and_stretched(self):
        for pool, values in cases():
            self.check_mirrored(pool, values, *stretched(pool, values, -1000, 999999999))


if __name__ == "__main__":
    unittest.main()
