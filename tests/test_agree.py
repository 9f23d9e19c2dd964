"""What is told of one net by several questions agrees, and each paper told is let by by its own judge."""

import itertools
import random
import unittest

from samples import net_by_chance
from tokenfold.bounds import bound, bound_wrong, endless, stair_end, widest
from tokenfold.cover import covered, covered_wrong
from tokenfold.errors import TooGreat
from tokenfold.firing import can, gone, start_heap
from tokenfold.lives import home, home_wrong, homes, life, life_wrong
from tokenfold.reach import dead, reach, stirring, way, way_wrong
from tokenfold.siphons import trapped
from tokenfold.soundness import sound, sound_wrong
from tokenfold.sums import least_sums, sums, worth


def nets_of_few_heaps(seed, many, most=60, **bounds):
    """So many nets by chance, of more than one heap and at most so many, each with what reach tells."""
    chance = random.Random(seed)
    found = []
    while len(found) < many:
        net = net_by_chance(chance, **bounds)
        try:
            told = reach(net, most=most)
        except TooGreat:
            continue
        if len(told[0]) > 1:
            found.append((net, *told))
    return found


def over(heap, other):
    return all(many >= few for many, few in zip(heap, other))


def come_to(heaps, steps, number):
    """The heaps that rows lead to from that one."""
    found = [number]
    for k in found:
        found.extend([behind for behind in {behind for _, behind in steps[k]} if behind not in found])
    return [heaps[k] for k in found]


class Agree(unittest.TestCase):

    def test_reach_and_way(self):
        for net, heaps, _ in nets_of_few_heaps(1, 60):
            for heap in itertools.product(range(4), repeat=len(net[0])):
                told = way(net, heap)
                self.assertEqual(told[0] == "row", heap in heaps)
                self.assertIsNone(way_wrong(net, heap, told))
            for heap in heaps:
                self.assertEqual(gone(net, start_heap(net), way(net, heap)[1]), heap)

    def test_reach_and_covered(self):
        for net, heaps, _ in nets_of_few_heaps(2, 40):
            for heap in itertools.product(range(4), repeat=len(net[0])):
                told = covered(net, heap)
                self.assertEqual(told[0] == "row", any(over(one, heap) for one in heaps))
                self.assertIsNone(covered_wrong(net, heap, told))
                if told[0] == "row":
                    shortest = min(len(way(net, one)[1]) for one in heaps if over(one, heap))
                    self.assertEqual(len(told[1]), shortest)

    def test_reach_and_widest_and_bound(self):
        for net, heaps, _ in nets_of_few_heaps(3, 60):
            self.assertEqual(widest(net), sorted([one for one in heaps if not any(over(other, one) for other in heaps
                                                                                  if other != one)]))
            self.assertEqual(endless(net), [])
            for at, (place, _) in enumerate(net[0]):
                told = bound(net, place)
                self.assertEqual(told[:2], ("most", max(heap[at] for heap in heaps)))
                self.assertIsNone(bound_wrong(net, place, told))
                self.assertIn(stair_end(net, told[2]), heaps)

    def test_reach_and_dead_and_stirring(self):
        for net, heaps, steps in nets_of_few_heaps(4, 60):
            self.assertEqual(dead(net), [heap for heap, leads in zip(heaps, steps) if not leads])
            names = {name for leads in steps for name, _ in leads}
            self.assertEqual(stirring(net), [firing[0] for firing in net[1] if firing[0] in names])
            for firing in net[1]:
                takes = dict(firing[2])
                self.assertEqual(firing[0] in names,
                                 covered(net, tuple([takes.get(name, 0) for name, _ in net[0]]))[0] == "row")

    def test_reach_and_life(self):
        for net, heaps, steps in nets_of_few_heaps(5, 60):
            for name, _, _, _ in net[1]:
                there = [any(name in can(net, one) for one in come_to(heaps, steps, k)) for k in range(len(heaps))]
                told = life(net, name)
                self.assertEqual(told[0], "live" if all(there) else "some" if there[0] else "dead")
                self.assertIsNone(life_wrong(net, name, told))

    def test_reach_and_home_and_homes(self):
        for net, heaps, steps in nets_of_few_heaps(6, 60, most=25):
            from_each = [come_to(heaps, steps, k) for k in range(len(heaps))]
            self.assertEqual(homes(net), [heap for heap in heaps if all(heap in found for found in from_each)])
            for heap in heaps + [tuple([count + 1 for count in heaps[-1]])]:
                told = home(net, heap)
                self.assertEqual(told[0] == "home", heap in homes(net))
                self.assertIsNone(home_wrong(net, heap, told))

    def test_reach_and_sound(self):
        words = []
        for net, heaps, steps in nets_of_few_heaps(7, 800, most=30, firings=3, start=1, count=1):
            if len(net[0]) < 2 or sum(heaps[0]) != 1:
                continue
            source = net[0][heaps[0].index(1)][0]
            for sink, _ in net[0]:
                if sink == source:
                    continue
                end = tuple([int(name == sink) for name, _ in net[0]])
                told = sound(net, source, sink)
                words.append(told[0])
                is_sound = (all(end in come_to(heaps, steps, k) for k in range(len(heaps)))
                            and not any(over(heap, end) and heap != end for heap in heaps)
                            and len(stirring(net)) == len(net[1]))
                self.assertEqual(told[0] == "sound", is_sound)
                self.assertIsNone(sound_wrong(net, source, sink, told))
        self.assertGreater(words.count("sound"), 0)
        self.assertGreater(words.count("stuck"), 10)

    def test_reach_and_worth(self):
        for net, heaps, _ in nets_of_few_heaps(8, 60):
            for weights in sums(net) + least_sums(net):
                self.assertEqual({worth(net, weights, heap) for heap in heaps}, {worth(net, weights, heaps[0])})

    def test_dead_and_trapped(self):
        for net, _, _ in nets_of_few_heaps(9, 300):
            ones = all(count == 1 for _, _, takes, gives in net[1] for _, count in takes + gives)
            if ones and all(takes for _, _, takes, _ in net[1]) and trapped(net)[0] == "holds":
                self.assertEqual(dead(net), [])


if __name__ == "__main__":
    unittest.main()
