"""What is told of one net by several questions agrees, and each paper told is let by by its own judge."""

import itertools
import random
import unittest

from samples import machines, net_by_chance
from tokenfold.bounds import bound, bound_wrong, endless, stair_end, widest
from tokenfold.cover import covered, covered_wrong
from tokenfold.cuts import dead_cuts, events_of, unfolding_wrong
from tokenfold.errors import TooGreat
from tokenfold.firing import can, gone, start_heap, words
from tokenfold.leads import led
from tokenfold.lives import home, home_wrong, homes, life, life_wrong
from tokenfold.logs import cost_of, fits, laid, laying_least, laying_wrong, paper_of
from tokenfold.reach import dead, reach, stirring, way, way_wrong
from tokenfold.reductions import heap_led_by, reduced, row_led_by
from tokenfold.regions import made_net, made_net_wrong, region_wrong
from tokenfold.siphons import is_siphon, siphons, trapped, trapped_wrong
from tokenfold.soundness import sound, sound_wrong
from tokenfold.sums import least_sums, sums, worth
from tokenfold.tables import same, table_of
from tokenfold.texts import printed, read_net
from tokenfold.unfolding import heap_of, plain_row, row_of, unfold
from tokenfold.workshop import Workshop


def nets_of_few_heaps(seed, many, most=60, **bounds):
    """So many nets by chance, of more than one heap and at most so many, each with what reach tells."""
    chance = random.Random(seed)
    found = []
    while len(found) < many:
        net = net_by_chance(chance, **bounds)
        try:
            told = reach(net, most=most)
        except TooGreat:
            continue
        if len(told[0]) > 1:
            found.append((net, *told))
    return found


def over(heap, other):
    return all(many >= few for many, few in zip(heap, other))


def come_to(heaps, steps, number):
    """The heaps that rows lead to from that one."""
    found = [number]
    for k in found:
        found.extend([behind for behind in {behind for _, behind in steps[k]} if behind not in found])
    return [heaps[k] for k in found]


class Agree(unittest.TestCase):

    def test_reach_and_way(self):
        for net, heaps, _ in nets_of_few_heaps(1, 60):
            for heap in itertools.product(range(4), repeat=len(net[0])):
                told = way(net, heap)
                self.assertEqual(told[0] == "row", heap in heaps)
                self.assertIsNone(way_wrong(net, heap, told))
            for heap in heaps:
                self.assertEqual(gone(net, start_heap(net), way(net, heap)[1]), heap)

    def test_reach_and_covered(self):
        for net, heaps, _ in nets_of_few_heaps(2, 40):
            for heap in itertools.product(range(4), repeat=len(net[0])):
                told = covered(net, heap)
                self.assertEqual(told[0] == "row", any(over(one, heap) for one in heaps))
                self.assertIsNone(covered_wrong(net, heap, told))
                if told[0] == "row":
                    shortest = min(len(way(net, one)[1]) for one in heaps if over(one, heap))
                    self.assertEqual(len(told[1]), shortest)

    def test_reach_and_widest_and_bound(self):
        for net, heaps, _ in nets_of_few_heaps(3, 60):
            self.assertEqual(widest(net), sorted([one for one in heaps if not any(over(other, one) for other in heaps
                                                                                  if other != one)]))
            self.assertEqual(endless(net), [])
            for at, (place, _) in enumerate(net[0]):
                told = bound(net, place)
                self.assertEqual(told[:2], ("most", max(heap[at] for heap in heaps)))
                self.assertIsNone(bound_wrong(net, place, told))
                self.assertIn(stair_end(net, told[2]), heaps)

    def test_reach_and_dead_and_stirring(self):
        for net, heaps, steps in nets_of_few_heaps(4, 60):
            self.assertEqual(dead(net), [heap for heap, leads in zip(heaps, steps) if not leads])
            names = {name for leads in steps for name, _ in leads}
            self.assertEqual(stirring(net), [firing[0] for firing in net[1] if firing[0] in names])
            for firing in net[1]:
                takes = dict(firing[2])
                self.assertEqual(firing[0] in names,
                                 covered(net, tuple([takes.get(name, 0) for name, _ in net[0]]))[0] == "row")

    def test_reach_and_life(self):
        for net, heaps, steps in nets_of_few_heaps(5, 60):
            for name, _, _, _ in net[1]:
                there = [any(name in can(net, one) for one in come_to(heaps, steps, k)) for k in range(len(heaps))]
                told = life(net, name)
                self.assertEqual(told[0], "live" if all(there) else "some" if there[0] else "dead")
                self.assertIsNone(life_wrong(net, name, told))

    def test_reach_and_home_and_homes(self):
        for net, heaps, steps in nets_of_few_heaps(6, 60, most=25):
            from_each = [come_to(heaps, steps, k) for k in range(len(heaps))]
            self.assertEqual(homes(net), [heap for heap in heaps if all(heap in found for found in from_each)])
            for heap in heaps + [tuple([count + 1 for count in heaps[-1]])]:
                told = home(net, heap)
                self.assertEqual(told[0] == "home", heap in homes(net))
                self.assertIsNone(home_wrong(net, heap, told))

    def test_reach_and_sound(self):
        words = []
        for net, heaps, steps in nets_of_few_heaps(7, 800, most=30, firings=3, start=1, count=1):
            if len(net[0]) < 2 or sum(heaps[0]) != 1:
                continue
            source = net[0][heaps[0].index(1)][0]
            for sink, _ in net[0]:
                if sink == source:
                    continue
                end = tuple([int(name == sink) for name, _ in net[0]])
                told = sound(net, source, sink)
                words.append(told[0])
                is_sound = (all(end in come_to(heaps, steps, k) for k in range(len(heaps)))
                            and not any(over(heap, end) and heap != end for heap in heaps)
                            and len(stirring(net)) == len(net[1]))
                self.assertEqual(told[0] == "sound", is_sound)
                self.assertIsNone(sound_wrong(net, source, sink, told))
        self.assertGreater(words.count("sound"), 0)
        self.assertGreater(words.count("stuck"), 10)

    def test_reach_and_worth(self):
        for net, heaps, _ in nets_of_few_heaps(8, 60):
            for weights in sums(net) + least_sums(net):
                self.assertEqual({worth(net, weights, heap) for heap in heaps}, {worth(net, weights, heaps[0])})

    def test_dead_and_trapped(self):
        for net, _, _ in nets_of_few_heaps(9, 300):
            ones = all(count == 1 for _, _, takes, gives in net[1] for _, count in takes + gives)
            if ones and all(takes for _, _, takes, _ in net[1]) and trapped(net)[0] == "holds":
                self.assertEqual(dead(net), [])

    def test_the_net_made_anew(self):
        for net, heaps, _ in nets_of_few_heaps(10, 60, most=20):
            table = table_of(net)
            told = made_net(table)
            self.assertEqual(told[0], "net")
            self.assertIsNone(made_net_wrong(table, told))
            self.assertIsNone(same(table_of(told[1]), table))
            self.assertEqual(len(dead(told[1])), len(dead(net)))
            self.assertEqual(stirring(told[1]), stirring(net))
            for at, (place, _) in enumerate(net[0]):
                # What each place has at the heaps is a region, with what the firings take of it and give to it.
                moves = [(dict(takes).get(place, 0), dict(gives).get(place, 0)) for _, _, takes, gives in net[1]]
                self.assertIsNone(region_wrong(table, (tuple([heap[at] for heap in heaps]), tuple(moves))))

    def test_the_text(self):
        for net, heaps, steps in nets_of_few_heaps(11, 40):
            self.assertEqual(reach(read_net(printed(net))), (heaps, steps))
            self.assertEqual(Workshop(printed(net)).net(), net)


class Plain(unittest.TestCase):
    """On plain nets of few heaps all questions agree with each other."""

    def setUp(self):
        chance = random.Random(12)
        self.nets = []
        for _ in range(40):
            net = machines(chance)
            labels = [chance.choice(["", "x", "y", "z"]) for _ in net[1]]
            self.nets.append((net[0], tuple([(name, label, *sides) for (name, _, *sides), label in zip(net[1], labels)])))
        self.chance = chance

    def test_the_unfolding(self):
        for net in self.nets:
            heaps, _ = reach(net)
            self.assertIsNone(plain_row(net))
            unfolding = unfold(net)
            self.assertIsNone(unfolding_wrong(net, unfolding))
            self.assertLessEqual(len([event for event in unfolding[1] if not event[3]]), len(heaps))
            self.assertEqual(dead_cuts(net, unfolding), sorted(dead(net)))
            self.assertEqual({event[0] for event in unfolding[1]}, set(stirring(net)))
            for heap in itertools.product(range(2), repeat=len(net[0])):
                events = events_of(net, unfolding, heap)
                self.assertEqual(events is not None, way(net, heap)[0] == "row")
                if events is not None:
                    self.assertEqual(heap_of(net, unfolding, events), heap)
                    self.assertEqual(gone(net, start_heap(net), row_of(net, unfolding, events)), heap)

    def test_the_rest(self):
        for net in self.nets:
            heaps, _ = reach(net)
            self.assertEqual(endless(net), [])
            self.assertLessEqual({count for wide in widest(net) for count in wide}, {0, 1})
            for place, _ in net[0]:
                told = bound(net, place)
                self.assertIsNone(bound_wrong(net, place, told))
                self.assertEqual(told[0], "most")
            self.assertIsNone(trapped_wrong(net, trapped(net)))
            for weights in sums(net):
                self.assertEqual({worth(net, weights, heap) for heap in heaps}, {worth(net, weights, heaps[0])})
            for lot in siphons(net):
                self.assertTrue(is_siphon(net, lot))
            for name, *_ in net[1]:
                self.assertIsNone(life_wrong(net, name, life(net, name)))
            for heap in heaps:
                self.assertIsNone(way_wrong(net, heap, way(net, heap)))
                self.assertIsNone(covered_wrong(net, heap, covered(net, heap)))
                self.assertIsNone(home_wrong(net, heap, home(net, heap)))

    def test_the_reduced_net(self):
        for net in self.nets:
            heaps, _ = reach(net)
            small, turns = reduced(net)
            self.assertEqual({heap_led_by(net, turns, heap) for heap in heaps}, set(reach(small)[0]))
            self.assertEqual({heap_led_by(net, turns, heap) for heap in dead(net)}, set(dead(small)))
            row = [event[0] for event in unfold(net)[1][:1]]
            self.assertEqual(words(small, row_led_by(net, turns, row)), words(net, row))
            table = table_of(net)
            self.assertIsNone(made_net_wrong(table, made_net(table)))

    def test_logs(self):
        for net in self.nets:
            heaps, steps = reach(net)
            row, at = [], 0
            for _ in range(5):
                if steps[at]:
                    name, at = self.chance.choice(steps[at])
                    row.append(name)
            labels = words(net, row)
            self.assertIs(fits(net, labels), True)
            self.assertIs(fits(net, labels, goal=heaps[at]), True)
            self.assertEqual(laid(net, labels, goal=heaps[at])[0], 0)
            mixed = labels + [self.chance.choice("xyzw")]
            told = laid(net, mixed, prices=(2, 3))
            self.assertIsNone(laying_wrong(net, mixed, told[1]))
            self.assertEqual(cost_of(net, told[1], prices=(2, 3)), told[0])
            self.assertLessEqual(told[0], 2)
            self.assertEqual(fits(net, mixed), told[0] == 0)
            self.assertIsNone(laying_least(net, mixed, told, paper_of(net, mixed, prices=(2, 3)), prices=(2, 3)))
            fired = [name for word, name in told[1] if word != "log"]
            self.assertIn(gone(net, start_heap(net), fired), heaps)

    def test_changes(self):
        for net in self.nets:
            shop = Workshop(printed(net))
            shop.start("run")
            for name, *_ in net[1]:
                if name in can(net, shop.heap("run")):
                    shop.fire("run", name)
            ahead = shop.heap("run")
            turned = (net[0][::-1], net[1])
            rows = [f"place {name} {start}" for name, start in turned[0]]
            shop.edit(rows)
            self.assertEqual(shop.heap("run"), ahead[::-1])
            self.assertEqual(shop.heap("run"), led(net, (turned[0], ()), ahead, {}))
            self.assertEqual(gone(net, start_heap(net), shop.trail("run")), ahead)
            shop.back()
            self.assertEqual(shop.heap("run"), ahead)


if __name__ == "__main__":
    unittest.main()
