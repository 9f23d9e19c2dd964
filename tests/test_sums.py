"""Sums, loops, their bases, and what they are made of."""

import itertools
import random
import time
import unittest

from samples import MILL, NO_NETS, WELL, is_fresh, net_by_chance
from tokenfold.errors import NoHeap, NoNet, NoSum
from tokenfold.firing import fired
from tokenfold.sums import loop_wrong, loops, made, made_of_loops, sum_wrong, sums, worth
from tokenfold.texts import read_net

# Of c a token is worth three of a and two of b.
COINS = read_net(["place a 6", "place b 0", "place c 1", "fire up : 3 a -> b", "fire down : b -> 3 a", "fire buy : 2 b -> c"])
# Two sums, the second of which stands in the first's place as well.
PAIRS = read_net(["place a 1", "place b 1", "place c 1", "fire t : 2 a -> 3 b"])
RING = read_net(["place a 1", "place b 0", "place c 0", "fire x : a -> b", "fire y : b -> c", "fire z : c -> a",
                 "fire w : a -> c"])
NO_SUMS = [None, True, 0, "", "abc", (), [], (1,), (1, 2), (1, 2, 3, 4), [6, 18, 36], (0, 0, True), (0, False, 0),
           (None, 0, 0), (0, "0", 0), (0, 0, (0,)), ((0, 0, 0),)]


def changes(net):
    """Of each firing how many more each place has behind it."""
    found = []
    for _, _, takes, gives in net[1]:
        found.append([dict(gives).get(name, 0) - dict(takes).get(name, 0) for name, _ in net[0]])
    return found


def solves(equations, numbers):
    return all(sum(a * b for a, b in zip(equation, numbers)) == 0 for equation in equations)


def added_up(times, basis, many):
    """The sum of the basis, each so many times."""
    return tuple([sum(time * row[k] for time, row in zip(times, basis)) for k in range(many)])


def places_of(basis):
    """Where the first number of each stands that isn't 0."""
    return [next(k for k, number in enumerate(row) if number) for row in basis]


class SumWrong(unittest.TestCase):

    def test_sums(self):
        for thing in [(1, 3, 6), (0, 0, 0), (-2, -6, -12), (10 ** 50, 3 * 10 ** 50, 6 * 10 ** 50)]:
            self.assertIsNone(sum_wrong(COINS, thing))
        self.assertIsNone(sum_wrong(thing=(5, -7), net=((("a", 0), ("b", 0)), ())))

    def test_no_tuple_of_as_many_whole_numbers(self):
        for thing in NO_SUMS:
            with self.subTest(thing):
                self.assertEqual(sum_wrong(COINS, thing), ("sum",))

    def test_the_first_firing_that_changes_it(self):
        self.assertEqual(sum_wrong(COINS, (1, 1, 1)), ("firing", "up"))
        self.assertEqual(sum_wrong(COINS, (1, 3, 5)), ("firing", "buy"))
        self.assertEqual(sum_wrong(COINS, (0, 0, 1)), ("firing", "buy"))
        self.assertEqual(sum_wrong(MILL, (0, 1, 1, 1)), ("firing", "end"))
        self.assertEqual(sum_wrong(MILL, (1, 0, 1, 0)), ("firing", "end"))
        self.assertEqual(sum_wrong(MILL, (0, 1, 1, 0)), None)

    def test_what_gives_what_it_takes_changes_nothing(self):
        net = ((("a", 1),), (("t", "", (("a", 2),), (("a", 2),)),))
        self.assertIsNone(sum_wrong(net, (7,)))


class LoopWrong(unittest.TestCase):

    def test_loops(self):
        for thing in [(1, 1, 1, 0), (0, 0, 1, 1), (0, 0, 0, 0), (-1, -1, 0, 1), (10 ** 50, 10 ** 50, 10 ** 50, 0)]:
            self.assertIsNone(loop_wrong(RING, thing))
        self.assertIsNone(loop_wrong(thing=(), net=((("a", 3),), ())))

    def test_no_tuple_of_as_many_whole_numbers(self):
        for thing in NO_SUMS:
            with self.subTest(thing):
                self.assertEqual(loop_wrong(COINS, thing), ("loop",))
        self.assertEqual(loop_wrong(((("a", 3),), ()), (0,)), ("loop",))
        self.assertEqual(loop_wrong(((("a", 3),), ()), []), ("loop",))

    def test_the_first_place_that_it_changes(self):
        self.assertEqual(loop_wrong(RING, (1, 0, 0, 0)), ("place", "a"))
        self.assertEqual(loop_wrong(RING, (1, 0, 1, 0)), ("place", "b"))
        self.assertEqual(loop_wrong(RING, (0, 1, 0, 0)), ("place", "b"))
        self.assertEqual(loop_wrong(COINS, (2, 0, 1)), ("place", "a"))
        self.assertEqual(loop_wrong(COINS, (2, 2, 1)), ("place", "b"))
        self.assertEqual(loop_wrong(WELL, (2, 2, 2)), ("place", "deep"))
        self.assertIsNone(loop_wrong(WELL, (2, 2, 1)))


class Worth(unittest.TestCase):

    def test_weighed(self):
        self.assertEqual(worth(COINS, (1, 3, 6), (6, 0, 1)), 12)
        self.assertEqual(worth(heap=(6, 0, 1), weights=(-1, -3, -6), net=COINS), -12)
        self.assertEqual(worth(COINS, (0, 0, 0), (6, 0, 1)), 0)
        self.assertEqual(worth(COINS, (10 ** 30, 3 * 10 ** 30, 6 * 10 ** 30), (1, 1, 10 ** 20)), 4 * 10 ** 30 + 6 * 10 ** 50)

    def test_the_same_behind_each_firing(self):
        for name, heap in [("up", (6, 0, 1)), ("down", (3, 1, 1)), ("buy", (0, 2, 1))]:
            self.assertEqual(worth(COINS, (1, 3, 6), fired(COINS, heap, name)), worth(COINS, (1, 3, 6), heap))

    def test_refused_in_order(self):
        for thing, wrong in NO_NETS:
            with self.assertRaises(NoNet) as caught:
                worth(thing, None, None)
            self.assertEqual(caught.exception.wrong, wrong)
        for weights, wrong in [(None, ("sum",)), ((1, 3), ("sum",)), ((1, 3, True), ("sum",)), ([1, 3, 6], ("sum",)),
                               ((1, 1, 1), ("firing", "up")), ((1, 3, 1), ("firing", "buy"))]:
            with self.assertRaises(NoSum) as caught:
                worth(COINS, weights, None)
            self.assertEqual(caught.exception.wrong, wrong)
        for heap, wrong in [(None, ("heap",)), ((1, 2), ("heap",)), ((1, 2, True), ("place", 2)), ((1, -1, 0), ("place", 1))]:
            with self.assertRaises(NoHeap) as caught:
                worth(COINS, (1, 3, 6), heap)
            self.assertEqual(caught.exception.wrong, wrong)


class Basis(unittest.TestCase):

    def test_sums(self):
        self.assertEqual(sums(COINS), [(1, 3, 6)])
        self.assertEqual(sums(net=RING), [(1, 1, 1)])
        self.assertEqual(sums(MILL), [(0, 1, 1, 0)])
        self.assertEqual(sums(PAIRS), [(3, 2, 0), (0, 0, 1)])

    def test_loops(self):
        self.assertEqual(loops(COINS), [(1, 1, 0)])
        self.assertEqual(loops(net=RING), [(1, 1, 0, -1), (0, 0, 1, 1)])
        self.assertEqual(loops(WELL), [(2, 2, 1)])

    def test_in_steps_by_numbers_below_the_one_behind(self):
        # 2 a + 3 b is as much as c: the sums are those with 2 x + 3 y = z, of whatever x and y.
        net = read_net(["place c 0", "place a 0", "place b 0", "fire t : a -> 2 c", "fire u : b -> 3 c"])
        self.assertEqual(sums(net), [(1, 2, 3)])
        # x + 5 y + 7 z is 0 modulo 12 where the last place's number is whole.
        net = read_net(["place x 0", "place y 0", "place z 0", "place w 0", "fire t : 12 w -> x + 5 y + 7 z"])
        self.assertEqual(sums(net), [(1, 0, 5, 3), (0, 1, 1, 1), (0, 0, 12, 7)])

    def test_in_steps_by_divisors(self):
        # Of the last place's twelfths each place behind leaves fewer to choose from.
        chance = random.Random(29)
        for _ in range(40):
            weights = [chance.choice([2, 3, 4, 6, 8, 9, 10, 12, 15]) for _ in range(3)]
            last = chance.choice([12, 24, 30, 36, 60])
            names = ["x", "y", "z"]
            net = ((("x", 0), ("y", 0), ("z", 0), ("w", 0)), (("t", "", (("w", last),), tuple(zip(names, weights))),))
            self.check_all_made(net, 7)

    def check_all_made(self, net, greatest):
        """Whether all sums with small numbers ahead are made of the basis."""
        basis = sums(net)
        equations = changes(net)
        self.assertEqual(places_of(basis), [0, 1, 2])
        for row in basis:
            self.assertTrue(solves(equations, row))
        weights = equations[0]
        for numbers in itertools.product(range(-greatest, greatest + 1), repeat=3):
            worth_ahead = sum(a * b for a, b in zip(weights, numbers))
            if worth_ahead % weights[3] == 0:
                thing = (*numbers, -worth_ahead // weights[3])
                self.assertEqual(added_up(made(net, thing), basis, 4), thing, net)

    def test_with_a_common_divisor_and_below_0(self):
        net = read_net(["place a 0", "place b 0", "fire t : 2 a -> 4 b"])
        self.assertEqual(sums(net), [(2, 1)])
        net = read_net(["place a 0", "place b 0", "fire t : 0 -> 2 a + 2 b"])
        self.assertEqual(sums(net), [(1, -1)])
        net = read_net(["place a 0", "place b 0", "fire t : 0 -> 6 a + 4 b"])
        self.assertEqual(sums(net), [(2, -3)])

    def test_nets_without_sums(self):
        self.assertEqual(sums(((("a", 0),), (("t", "", (), (("a", 1),)),))), [])
        net = read_net(["place a 0", "place b 0", "fire t : a -> 2 b", "fire u : b -> 2 a"])
        self.assertEqual((sums(net), loops(net)), ([], []))

    def test_without_firings(self):
        net = ((("a", 3), ("b", 0), ("c", 1)), ())
        self.assertEqual(sums(net), [(1, 0, 0), (0, 1, 0), (0, 0, 1)])
        self.assertEqual(loops(net), [])

    def test_firings_that_change_nothing(self):
        net = ((("a", 3), ("b", 0)), (("t", "", (), ()), ("u", "", (("a", 2),), (("a", 2),))))
        self.assertEqual(sums(net), [(1, 0), (0, 1)])
        self.assertEqual(loops(net), [(1, 0), (0, 1)])

    def test_numbers_of_many_figures(self):
        many = 999999999
        net = ((("a", 0), ("b", 0), ("c", 0)),
               (("t", "", (("a", many),), (("b", many - 1),)), ("u", "", (("b", many - 2),), (("c", many - 4),))))
        told = sums(net)
        self.assertEqual(len(told), 1)
        self.assertIsNone(sum_wrong(net, told[0]))
        self.assertEqual(told, [((many - 1) * (many - 4), many * (many - 4), many * (many - 2))])

    def test_against_all_small_solutions(self):
        chance = random.Random(30)
        many = 0
        for _ in range(250):
            net = net_by_chance(chance, places=4, firings=4, count=5, parts=3)
            across = changes(net)
            down = [list(column) for column in zip(*across)]
            for basis, equations, length in [(sums(net), across, len(net[0])), (loops(net), down, len(net[1]))]:
                first = places_of(basis)
                self.assertEqual(first, sorted(set(first)))
                for k, row in enumerate(basis):
                    self.assertIs(type(row), tuple)
                    self.assertTrue(solves(equations, row))
                    self.assertGreater(row[first[k]], 0)
                    for ahead in basis[:k]:
                        self.assertTrue(0 <= ahead[first[k]] < row[first[k]])
                many += len(basis) > 1
                for numbers in itertools.product(range(-2, 3), repeat=length):
                    if solves(equations, numbers):
                        tell = made if equations is across else made_of_loops
                        self.assertEqual(added_up(tell(net, numbers), basis, length), numbers, net)
        self.assertGreater(many, 50)

    def test_told_lists_are_new(self):
        self.assertTrue(is_fresh(lambda: sums(PAIRS)))
        self.assertTrue(is_fresh(lambda: loops(RING)))

    def test_no_net(self):
        for ask in [sums, loops, lambda net: made(net, None), lambda net: made_of_loops(net, None),
                    lambda net: sum_wrong(net, None), lambda net: loop_wrong(net, None)]:
            for thing, wrong in NO_NETS:
                with self.assertRaises(NoNet) as caught:
                    ask(thing)
                self.assertEqual(caught.exception.wrong, wrong)

    def test_fast_on_the_greatest_nets(self):
        chance = random.Random(31)
        begin = time.perf_counter()
        for firings in [35, 39, 60]:
            places = tuple([(f"p{k}", 1) for k in range(40)])
            fires = []
            for k in range(firings):
                sides = [tuple([(f"p{at}", chance.randrange(1, 10 ** 9)) for at in sorted(chance.sample(range(40), 12))])
                         for _ in range(2)]
                fires.append((f"t{k}", "", *sides))
            net = (places, tuple(fires))
            for basis, wrong in [(sums(net), sum_wrong), (loops(net), loop_wrong)]:
                for row in basis:
                    self.assertIsNone(wrong(net, row))
            self.assertEqual((len(sums(net)), len(loops(net))), (40 - min(firings, 40), max(0, firings - 40)))
        self.assertLess(time.perf_counter() - begin, 30)


class Made(unittest.TestCase):

    def test_of_the_basis_and_of_some_added_up(self):
        net = read_net(["place x 0", "place y 0", "place z 0", "place w 0", "fire t : 12 w -> x + 5 y + 7 z"])
        basis = sums(net)
        for k, row in enumerate(basis):
            self.assertEqual(made(net, row), tuple([1 if at == k else 0 for at in range(3)]))
        for times in [(0, 0, 0), (1, 1, 1), (-1, 2, -3), (0, 5, -7), (10 ** 40, -10 ** 41, 3)]:
            self.assertEqual(made(weights=added_up(times, basis, 4), net=net), times)

    def test_made_of_loops(self):
        self.assertEqual(made_of_loops(RING, (1, 1, 1, 0)), (1, 1))
        self.assertEqual(made_of_loops(times=(-3, -3, -1, 2), net=RING), (-3, -1))
        self.assertEqual(made_of_loops(RING, (0, 0, 10 ** 60, 10 ** 60)), (0, 10 ** 60))
        self.assertEqual(made_of_loops(((("a", 1),), ()), ()), ())

    def test_of_a_net_without_sums(self):
        self.assertEqual(made(((("a", 0),), (("t", "", (), (("a", 1),)),)), (0,)), ())

    def test_refused(self):
        for weights, wrong in [((1, 3), ("sum",)), ((1, 3, True), ("sum",)), (None, ("sum",)), ((1, 0, 0), ("firing", "up")),
                               ((1, 3, 7), ("firing", "buy"))]:
            with self.assertRaises(NoSum) as caught:
                made(COINS, weights)
            self.assertEqual(caught.exception.wrong, wrong)
        for times, wrong in [((1, 1), ("loop",)), ([1, 1, 0], ("loop",)), ((True, 1, 0), ("loop",)), (None, ("loop",)),
                             ((1, 0, 0), ("place", "a")), ((1, 1, 2), ("place", "b"))]:
            with self.assertRaises(NoSum) as caught:
                made_of_loops(COINS, times)
            self.assertEqual(caught.exception.wrong, wrong)


if __name__ == "__main__":
    unittest.main()
