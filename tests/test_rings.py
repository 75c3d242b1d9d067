"""Orders and rings of things that read one another."""

import itertools
import random
import unittest

from boughworth.rings import order_of, reads_from, ring_from, ring_in, way_to
from example_trees import come_to, hanging, is_ring_by_the_words


def random_reads(seed):
    chance = random.Random(seed)
    many = chance.randrange(1, 12)
    ties = chance.choice((0.5, 1, 2))
    return {one: [other for other in range(many) if chance.random() < ties / many] for one in range(many)}


class RingsTest(unittest.TestCase):

    def looked_at(self, reads):
        before = {one: list(others) for one, others in reads.items()}
        hang = hanging(reads)
        order = order_of(reads)
        self.assertCountEqual(order, [one for one in reads if one not in hang])
        for k, one in enumerate(order):
            self.assertLessEqual(set(reads[one]), set(order[:k]))
        reached = come_to(reads)
        if hang:
            self.assertTrue(is_ring_by_the_words(reads, ring_in(reads)))
        else:
            self.assertIsNone(ring_in(reads))
        for one in reads:
            self.assertEqual(set(reads_from(reads, one)), reached[one] | {one})
            self.assertTrue(all(reads_from(reads, one)[other] == reads[other] for other in reached[one]))
            for other in reads:
                self.way_looked_at(reads, reached, one, other)
            if one in hang:
                ring = ring_from(reads, one)
                self.assertTrue(is_ring_by_the_words(reads, ring))
                self.assertLessEqual(set(ring), reached[one] | {one})
        self.assertEqual(reads, before)

    def way_looked_at(self, reads, reached, one, other):
        way = way_to(reads, one, other)
        if one != other and other not in reached[one]:
            self.assertIsNone(way)
        else:
            self.assertEqual((way[0], way[-1], len(set(way))), (one, other, len(way)))
            self.assertTrue(all(following in reads[step] for step, following in zip(way, way[1:])))

    def test_none_and_one(self):
        self.assertEqual((order_of({}), ring_in({})), ([], None))
        self.assertEqual((order_of({"x": []}), ring_in({"x": []})), (["x"], None))
        self.assertEqual((order_of({"x": ["x"]}), ring_in({"x": ["x"]})), ([], ["x"]))

    def test_all_of_three(self):
        pairs = list(itertools.product(range(3), repeat=2))
        for chosen in itertools.product((False, True), repeat=9):
            reads = {0: [], 1: [], 2: []}
            for (one, other), there in zip(pairs, chosen):
                if there:
                    reads[one].append(other)
            self.looked_at(reads)

    def test_many(self):
        for seed in range(300):
            self.looked_at(random_reads(seed))

    def test_in_a_row_of_five_thousand(self):
        reads = {k: [k + 1] for k in range(5000)}
        reads[5000] = []
        self.assertEqual(order_of(reads), list(range(5000, -1, -1)))
        self.assertEqual(len(reads_from(reads, 1)), 5000)
        reads[5000] = [3]
        self.assertEqual(order_of(reads), [])
        self.assertEqual(ring_from(reads, 0), list(range(3, 5001)))


if __name__ == "__main__":
    unittest.main()
