"""What is told of one net by several questions agrees, and each paper told is let by by its own judge."""

import itertools
import random
import unittest

from samples import net_by_chance
from tokenfold.bounds import bound, bound_wrong, endless, stair_end, widest
from tokenfold.cover import covered, covered_wrong
from tokenfold.errors import TooGreat
from tokenfold.firing import gone, start_heap
from tokenfold.reach import dead, reach, stirring, way, way_wrong


def nets_of_few_heaps(seed, many, most=60):
    """So many nets by chance, of more than one heap and at most so many, each with what reach tells."""
    chance = random.Random(seed)
    found = []
    while len(found) < many:
        net = net_by_chance(chance)
        try:
            told = reach(net, most=most)
        except TooGreat:
            continue
        if len(told[0]) > 1:
            found.append((net, *told))
    return found


def over(heap, other):
    return all(many >= few for many, few in zip(heap, other))


class Agree(unittest.TestCase):

    def test_reach_and_way(self):
        for net, heaps, _ in nets_of_few_heaps(1, 60):
            for heap in itertools.product(range(4), repeat=len(net[0])):
                told = way(net, heap)
                self.assertEqual(told[0] == "row", heap in heaps)
                self.assertIsNone(way_wrong(net, heap, told))
            for heap in heaps:
                self.assertEqual(gone(net, start_heap(net), way(net, heap)[1]), heap)

    def test_reach_and_covered(self):
        for net, heaps, _ in nets_of_few_heaps(2, 40):
            for heap in itertools.product(range(4), repeat=len(net[0])):
                told = covered(net, heap)
                self.assertEqual(told[0] == "row", any(over(one, heap) for one in heaps))
                self.assertIsNone(covered_wrong(net, heap, told))
                if told[0] == "row":
                    shortest = min(len(way(net, one)[1]) for one in heaps if over(one, heap))
                    self.assertEqual(len(told[1]), shortest)

    def test_reach_and_widest_and_bound(self):
        for net, heaps, _ in nets_of_few_heaps(3, 60):
            self.assertEqual(widest(net), sorted([one for one in heaps if not any(over(other, one) for other in heaps
                                                                                  if other != one)]))
            self.assertEqual(endless(net), [])
            for at, (place, _) in enumerate(net[0]):
                told = bound(net, place)
                self.assertEqual(told[:2], ("most", max(heap[at] for heap in heaps)))
                self.assertIsNone(bound_wrong(net, place, told))
                self.assertIn(stair_end(net, told[2]), heaps)

    def test_reach_and_dead_and_stirring(self):
        for net, heaps, steps in nets_of_few_heaps(4, 60):
            self.assertEqual(dead(net), [heap for heap, leads in zip(heaps, steps) if not leads])
            names = {name for leads in steps for name, _ in leads}
            self.assertEqual(stirring(net), [firing[0] for firing in net[1] if firing[0] in names])
            for firing in net[1]:
                takes = dict(firing[2])
                self.assertEqual(firing[0] in names,
                                 covered(net, tuple([takes.get(name, 0) for name, _ in net[0]]))[0] == "row")


if __name__ == "__main__":
    unittest.main()
