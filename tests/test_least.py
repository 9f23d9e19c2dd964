"""The least sums and loops."""

import itertools
import math
import random
import unittest

from samples import MILL, NO_NETS, WELL, is_fresh, net_by_chance
from tokenfold.errors import NoNet, TooGreat
from tokenfold.sums import least_loops, least_sums
from tokenfold.texts import read_net


def told(ask, net, most):
    try:
        return ask(net, most=most)
    except TooGreat as error:
        return ("great", error.most)


def least_within(equations, many, greatest):
    """All least solutions with numbers up to the greatest, gone through one by one."""
    found = [numbers for numbers in itertools.product(range(greatest + 1), repeat=many)
             if any(numbers) and math.gcd(*numbers) == 1
             and all(sum(a * b for a, b in zip(equation, numbers)) == 0 for equation in equations)]
    lots = [{k for k, number in enumerate(numbers) if number} for numbers in found]
    return sorted([numbers for numbers, lot in zip(found, lots) if not any(other < lot for other in lots)])


def equations_of(net):
    """What sums must solve, firing by firing, and what loops must, place by place."""
    across = [[dict(gives).get(name, 0) - dict(takes).get(name, 0) for name, _ in net[0]] for _, _, takes, gives in net[1]]
    return across, [[change[k] for change in across] for k in range(len(net[0]))]


class LeastSums(unittest.TestCase):

    def test_sorted(self):
        net = read_net(["place a 0", "place b 0", "place c 0", "place d 0", "fire t : a -> b", "fire u : c -> 2 d"])
        self.assertEqual(least_sums(net), [(0, 0, 2, 1), (1, 1, 0, 0)])
        self.assertEqual(least_sums(net=MILL, most=3), [(0, 1, 1, 0)])
        # A seller takes a or b for both c and d.
        net = read_net(["place a 0", "place b 0", "place c 0", "place d 0", "fire t : a + b -> c + d"])
        self.assertEqual(least_sums(net), [(0, 1, 0, 1), (0, 1, 1, 0), (1, 0, 0, 1), (1, 0, 1, 0)])

    def test_no_common_divisor(self):
        net = read_net(["place a 0", "place b 0", "fire t : 6 a -> 4 b"])
        self.assertEqual(least_sums(net), [(2, 3)])
        net = read_net(["place a 0", "place b 0", "fire t : 2 a -> 4 b"])
        self.assertEqual(least_sums(net), [(2, 1)])

    def test_none_whose_places_another_one_has_some_of(self):
        net = read_net(["place a 0", "place b 0", "place c 0", "fire t : a -> b", "fire u : b -> a"])
        self.assertEqual(least_sums(net), [(0, 0, 1), (1, 1, 0)])

    def test_each_place_without_a_firing(self):
        net = read_net(["place a 0", "place b 0", "place c 0", "fire t : 0 -> b"])
        self.assertEqual(least_sums(net), [(0, 0, 1), (1, 0, 0)])

    def test_without_firings(self):
        net = ((("a", 1), ("b", 0), ("c", 0)), ())
        self.assertEqual(least_sums(net), [(0, 0, 1), (0, 1, 0), (1, 0, 0)])
        for most in range(1, 5):
            self.assertEqual(told(least_sums, net, most)[0] == "great", most < 3)
        self.assertEqual(told(least_sums, net, 2), ("great", 2))

    def test_none(self):
        self.assertEqual(least_sums(((("a", 0),), (("t", "", (), (("a", 1),)),))), [])
        self.assertEqual(least_sums(WELL), [(1, 1, 0)])

    def test_numbers_of_many_figures(self):
        many = 999999999
        net = ((("a", 0), ("b", 0), ("c", 0)),
               (("t", "", (("a", many),), (("b", many - 1),)), ("u", "", (("b", many),), (("c", many - 1),))))
        self.assertEqual(least_sums(net), [((many - 1) ** 2, many * (many - 1), many ** 2)])


class LeastLoops(unittest.TestCase):

    def test_sorted(self):
        net = read_net(["place a 1", "place b 0", "place c 0", "fire x : a -> b", "fire y : b -> c", "fire z : c -> a",
                        "fire w : a -> c"])
        self.assertEqual(least_loops(net), [(0, 0, 1, 1), (1, 1, 1, 0)])
        self.assertEqual(least_loops(most=5, net=WELL), [(2, 2, 1)])

    def test_firings_that_change_nothing(self):
        net = ((("a", 1),), (("t", "", (), ()), ("u", "", (("a", 1),), (("a", 1),)), ("v", "", (("a", 1),), ())))
        self.assertEqual(least_loops(net), [(0, 1, 0), (1, 0, 0)])

    def test_without_firings(self):
        self.assertEqual(least_loops(((("a", 1), ("b", 0)), ())), [])
        self.assertEqual(least_loops(((("a", 1), ("b", 0)), ()), most=1), [])

    def test_where_no_place_is_taken_of_or_given_to(self):
        net = ((("a", 1), ("b", 1)), (("t", "", (), ()), ("u", "", (), ()), ("v", "", (), ())))
        self.assertEqual(least_loops(net), [(0, 0, 1), (0, 1, 0), (1, 0, 0)])
        for most in range(1, 5):
            self.assertEqual(told(least_loops, net, most)[0] == "great", most < 3)


class Great(unittest.TestCase):

    def test_just_where_there_are_more(self):
        net = read_net(["place a 0", "place b 0", "place c 0", "place d 0", "fire t : a + b -> c + d"])
        for most in range(1, 7):
            self.assertEqual(told(least_sums, net, most)[0] == "great", most < 4)
        self.assertEqual(told(least_sums, net, 3), ("great", 3))

    def test_of_the_first_firings_alone(self):
        # Of t alone there are nine; of both three.
        net = read_net(["place a 0", "place b 0", "place c 0", "place d 0", "place e 0", "place f 0",
                        "fire t : a + b + c -> d + e + f", "fire u : a -> d", "fire v : b + e -> 0"])
        both = least_sums(net)
        self.assertLess(len(both), 5)
        for most in range(1, 12):
            self.assertEqual(told(least_sums, net, most), ("great", most) if most < 9 else both)

    def test_the_places_ahead_of_the_first_firing_count_for_nothing(self):
        # The net has four places; of its first firing alone there are two sums.
        net = read_net(["place a 0", "place b 0", "place c 0", "place d 0", "fire t : 0 -> a + b"])
        self.assertEqual(told(least_sums, net, 2), [(0, 0, 0, 1), (0, 0, 1, 0)])
        self.assertEqual(told(least_sums, net, 1), ("great", 1))

    def test_of_the_first_places_alone(self):
        net = read_net(["place a 0", "place b 0", "fire t : 0 -> a", "fire u : 0 -> a", "fire v : a -> 0", "fire w : a -> 0",
                        "fire x : 0 -> b"])
        # Of a alone there are five loops, x among them.
        for most in range(1, 8):
            self.assertEqual(told(least_loops, net, most)[0] == "great", most < 5)
        net = read_net(["place b 0", "place a 0", "fire t : 0 -> a", "fire u : 0 -> a", "fire v : a -> 0", "fire w : a -> 0",
                        "fire x : 0 -> b"])
        for most in range(1, 8):
            self.assertEqual(told(least_loops, net, most)[0] == "great", most < 4)

    def test_against_the_first_k_of_each(self):
        chance = random.Random(32)
        for _ in range(60):
            net = net_by_chance(chance, places=5, firings=4)
            for ask, first, many in [(least_sums, lambda k: (net[0], net[1][:k]), len(net[1])),
                                     (least_loops, lambda k: first_places(net, k), len(net[0]))]:
                counts = [len(ask(first(k))) for k in range(1, many + 1)]
                for most in range(1, max(counts) + 2):
                    self.assertEqual(told(ask, net, most)[0:1] == ("great",), most < max(counts), (net, most))


def first_places(net, many):
    """The net with its first places, the firings taking and giving there alone."""
    names = [name for name, _ in net[0][:many]]
    fires = [(name, label, *[tuple([part for part in side if part[0] in names]) for side in sides])
             for name, label, *sides in net[1]]
    return (net[0][:many], tuple(fires))


class Least(unittest.TestCase):

    def test_against_all_small_ones(self):
        chance = random.Random(33)
        compared = 0
        for _ in range(150):
            net = net_by_chance(chance, places=4, firings=4, count=2, parts=3)
            for ask, equations, many in zip([least_sums, least_loops], equations_of(net), [len(net[0]), len(net[1])]):
                found = ask(net)
                self.assertEqual(found, sorted(found))
                for numbers in found:
                    self.assertIs(type(numbers), tuple)
                if max([max(numbers) for numbers in found], default=0) <= 6:
                    compared += 1
                    self.assertEqual(found, least_within(equations, many, 6), net)
        self.assertGreater(compared, 200)

    def test_against_all_small_ones_of_more_places(self):
        chance = random.Random(39)
        compared = 0
        for _ in range(60):
            names = ["a", "b", "c", "d", "e", "f"]
            fires = []
            for k in range(3):
                many = chance.randrange(2, 7)
                lot = chance.sample(names, many)
                cut = chance.randrange(1, many)
                takes, gives = [tuple([(name, 1) for name in names if name in side]) for side in (lot[:cut], lot[cut:])]
                fires.append((f"t{k}", "", takes, gives))
            net = (tuple([(name, 0) for name in names]), tuple(fires))
            found = least_sums(net)
            if max([max(numbers) for numbers in found], default=0) <= 3:
                compared += 1
                self.assertEqual(found, least_within(equations_of(net)[0], 6, 3), net)
        self.assertGreater(compared, 40)

    def test_none_has_a_part_of_another(self):
        chance = random.Random(40)
        for _ in range(30):
            net = net_by_chance(chance, places=12, firings=8, parts=4)
            for ask in [least_sums, least_loops]:
                lots = [{k for k, number in enumerate(numbers) if number} for numbers in ask(net)]
                self.assertFalse(any(one < other for one in lots for other in lots))

    def test_told_lists_are_new(self):
        self.assertTrue(is_fresh(lambda: least_sums(MILL)))
        self.assertTrue(is_fresh(lambda: least_loops(WELL)))

    def test_no_net(self):
        for ask in [least_sums, least_loops]:
            for thing, wrong in NO_NETS:
                with self.assertRaises(NoNet) as caught:
                    ask(thing, most=1)
                self.assertEqual(caught.exception.wrong, wrong)


if __name__ == "__main__":
    unittest.main()
