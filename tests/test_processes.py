import random
import unittest

from samples import MILL, is_fresh
from tokenfold.errors import NoFiring, NoNet, NoNumber, NotApart, Stuck
from tokenfold.firing import at_once, can, fired, gone, layers, process, start_heap, swapped
from tokenfold.texts import read_net

# One place, of which each firing takes and to which each gives.
POT = read_net(["place pot 2", "fire one : pot -> 2 pot", "fire three : 3 pot -> pot", "fire none : 0 -> pot"])
ASKED = [process, layers, lambda net, row: swapped(net, row, 0)]


def causes_by_tokens(net, row):
    """The causes, with each token on its own in its queue."""
    queues = {name: [None] * start for name, start in net[0]}
    takes = {firing[0]: firing[2] for firing in net[1]}
    gives = {firing[0]: firing[3] for firing in net[1]}
    told = []
    for k, name in enumerate(row):
        makers = set()
        for place, count in takes[name]:
            makers.update(queues[place][:count])
            del queues[place][:count]
        for place, count in gives[name]:
            queues[place].extend([k] * count)
        told.append(tuple(sorted(makers - {None})))
    return told


def row_by_chance(net, chance, many):
    """A row from the start on, of so many firings, or fewer where none can."""
    heap = start_heap(net)
    row = []
    while len(row) < many and can(net, heap):
        row.append(chance.choice(can(net, heap)))
        heap = fired(net, heap, row[-1])
    return row


def net_by_chance(chance):
    places = tuple([(f"p{k}", chance.randrange(4)) for k in range(chance.randrange(1, 5))])
    firings = []
    for k in range(chance.randrange(1, 6)):
        takes, gives = [tuple([(name, chance.randrange(1, 4)) for name, _ in places if chance.randrange(3) == 0])
                        for _ in range(2)]
        firings.append((f"t{k}", "", takes, gives))
    return (places, tuple(firings))


class Process(unittest.TestCase):

    def test_without_causes(self):
        self.assertEqual(process(MILL, []), [])
        self.assertEqual(process(MILL, ["begin", "begin", "rain"]), [(), (), ()])

    def test_causes(self):
        self.assertEqual(process(MILL, ["begin", "end", "begin", "begin", "end", "bake"]), [(), (0,), (), (1,), (2,), (1, 4)])
        self.assertEqual(process(row=["begin", "end"], net=MILL), [(), (0,)])

    def test_the_oldest_tokens(self):
        self.assertEqual(process(POT, ["none", "one", "one", "one", "one"]), [(), (), (), (0,), (1,)])

    def test_rising_each_once(self):
        net = read_net(["place b 0", "place a 0", "fire x : 0 -> 2 a", "fire y : 0 -> 2 b", "fire t : 2 b + 2 a -> 0"])
        self.assertEqual(process(net, ["x", "y", "t"]), [(), (), (0, 1)])
        self.assertEqual(process(net, ["x", "y", "x", "y", "t", "t"])[4:], [(0, 1), (2, 3)])

    def test_a_firing_that_gives_what_it_takes(self):
        self.assertEqual(process(POT, ["one", "one", "three", "one"]), [(), (), (0, 1), (1,)])

    def test_of_the_start_and_of_a_deed(self):
        net = read_net(["place a 1", "fire s : 0 -> a", "fire t : 2 a -> 0"])
        self.assertEqual(process(net, ["s", "t"]), [(), (0,)])

    def test_great_counts(self):
        net = read_net(["place a 999999999", "place b 0", "fire s : 999999999 a -> 999999999 b",
                        "fire t : 999999998 b -> a", "fire u : a + 2 b -> 0"])
        self.assertEqual(process(net, ["s", "t"]), [(), (0,)])
        with self.assertRaises(Stuck):
            process(net, ["s", "t", "u"])
        net = read_net(["place a 0", "fire s : 0 -> 999999999 a", "fire t : 999999998 a -> 0"])
        self.assertEqual(process(net, ["s", "s", "t", "t", "s", "t"]), [(), (), (0,), (0, 1), (), (1, 4)])

    def test_long_rows(self):
        row = ["none"] * 1000 + ["one"] * 1000
        self.assertEqual(process(POT, row)[1000:], [(), ()] + [(k,) for k in range(998)])

    def test_against_single_tokens(self):
        chance = random.Random(31)
        for _ in range(300):
            net = net_by_chance(chance)
            row = row_by_chance(net, chance, 25)
            self.assertEqual(process(net, row), causes_by_tokens(net, row), (net, row))

    def test_a_new_list_each_time(self):
        self.assertTrue(is_fresh(lambda: process(MILL, ["begin", "end"])))
        self.assertIs(type(process(MILL, ["begin"])[0]), tuple)


class Layers(unittest.TestCase):

    def test_layers(self):
        self.assertEqual(layers(MILL, []), [])
        self.assertEqual(layers(MILL, ["begin", "end", "begin", "rain"]), [[0, 2, 3], [1]])
        row = ["begin", "end", "begin", "begin", "end", "bake", "rain"]
        self.assertEqual(layers(row=row, net=MILL), [[0, 2, 6], [1, 4], [3, 5]])

    def test_behind_the_greatest_of_its_causes(self):
        net = read_net(["place a 1", "place b 0", "place c 0", "fire s : a -> b", "fire t : b -> c", "fire u : 0 -> a",
                        "fire v : a + c -> 0"])
        self.assertEqual(layers(net, ["s", "t", "u", "v"]), [[0, 2], [1], [3]])

    def test_each_layer_can_at_once(self):
        chance = random.Random(5)
        for _ in range(200):
            net = net_by_chance(chance)
            row = row_by_chance(net, chance, 15)
            heap = start_heap(net)
            order = [firing[0] for firing in net[1]]
            for layer in layers(net, row):
                names = [row[k] for k in layer]
                heap = at_once(net, heap, tuple([(name, names.count(name)) for name in order if name in names]))
            self.assertEqual(heap, gone(net, start_heap(net), row))

    def test_a_new_list_each_time(self):
        self.assertTrue(is_fresh(lambda: layers(MILL, ["begin", "end"])))
        told = layers(MILL, ["begin", "end"])
        told[0].append(9)
        self.assertEqual(layers(MILL, ["begin", "end"]), [[0], [1]])


class Swapped(unittest.TestCase):

    ROW = ["begin", "begin", "end", "rain", "end"]

    def test_each_number(self):
        self.assertEqual(process(MILL, self.ROW), [(), (), (0,), (), (1,)])
        self.assertEqual(swapped(MILL, self.ROW, 0), ["begin", "begin", "end", "rain", "end"])
        self.assertEqual(swapped(MILL, self.ROW, 1), ["begin", "end", "begin", "rain", "end"])
        self.assertEqual(swapped(MILL, self.ROW, 2), ["begin", "begin", "rain", "end", "end"])
        self.assertEqual(swapped(k=3, row=self.ROW, net=MILL), ["begin", "begin", "end", "end", "rain"])

    def test_not_apart(self):
        for row, k in [(["begin", "end"], 0), (["rain", "begin", "end", "rain"], 1), (["none", "three", "one"], 0),
                       (["none", "three", "one"], 1)]:
            with self.subTest(row):
                with self.assertRaises(NotApart):
                    swapped(POT if "three" in row else MILL, row, k)

    def test_not_apart_by_one_cause_of_several(self):
        net = read_net(["place a 0", "fire s : 0 -> a", "fire t : 3 a -> 0"])
        self.assertEqual(process(net, ["s", "s", "s", "t"])[3], (0, 1, 2))
        with self.assertRaises(NotApart):
            swapped(net, ["s", "s", "s", "t"], 2)

    def test_a_cause_further_ahead_does_not_bar(self):
        self.assertEqual(swapped(MILL, ["begin", "rain", "end"], 1), ["begin", "end", "rain"])

    def test_no_numbers(self):
        for k in [-1, -5, 4, 5, 100, True, False, None, "0", "", (0,), [0], []]:
            with self.subTest(k):
                with self.assertRaises(NoNumber):
                    swapped(MILL, self.ROW, k)
        for row in [[], ["begin"]]:
            for k in [0, -1, 1]:
                with self.subTest((row, k)):
                    with self.assertRaises(NoNumber):
                        swapped(MILL, row, k)

    def test_comes_to_the_same_heap(self):
        chance = random.Random(12)
        apart = 0
        for _ in range(200):
            net = net_by_chance(chance)
            row = row_by_chance(net, chance, 12)
            causes = process(net, row)
            for k in range(len(row) - 1):
                if k not in causes[k + 1]:
                    apart += 1
                    told = swapped(net, row, k)
                    self.assertEqual(told, row[:k] + [row[k + 1], row[k]] + row[k + 2:])
                    self.assertEqual(gone(net, start_heap(net), told), gone(net, start_heap(net), row))
        self.assertGreater(apart, 100)

    def test_what_is_handed_in_stays(self):
        row = list(self.ROW)
        self.assertTrue(is_fresh(lambda: swapped(MILL, row, 1)))
        self.assertEqual(row, self.ROW)
        self.assertIsNot(swapped(MILL, row, 0), row)


class Refused(unittest.TestCase):

    def test_no_net(self):
        for ask in ASKED:
            with self.assertRaises(NoNet) as caught:
                ask(((("a", 0),), (None,)), ["x"])
            self.assertEqual(caught.exception.wrong, ("firing", 0))

    def test_no_firing_ahead_of_stuck(self):
        for ask in ASKED:
            with self.assertRaises(NoFiring) as caught:
                ask(MILL, ["end", "x", "y"])
            self.assertEqual(caught.exception.name, "x")

    def test_stuck_as_gone_from_the_start(self):
        for ask in ASKED:
            with self.assertRaises(Stuck) as caught:
                ask(MILL, ["begin", "end", "rain", "bake", "end"])
            self.assertEqual((caught.exception.at, caught.exception.place), (3, "flour"))

    def test_swapped_in_order(self):
        for net, row, k, kind in [(None, ["x"], None, NoNet), (MILL, ["end", "x"], None, NoFiring),
                                  (MILL, ["begin", "end", "end"], None, Stuck), (MILL, ["begin", "end"], 1, NoNumber),
                                  (MILL, ["begin", "end"], False, NoNumber), (MILL, ["begin", "end"], 0, NotApart)]:
            with self.subTest(kind):
                with self.assertRaises(kind):
                    swapped(net, row, k)


if __name__ == "__main__":
    unittest.main()
