import itertools
import random
import time
import unittest

from samples import DOOR, MILL, NO_NETS, STRANGE, WELL, is_deeply_fresh, net_by_chance
from tokenfold.cover import covered, covered_wrong
from tokenfold.errors import NoHeap, NoNet, TooGreat
from tokenfold.firing import gone, start_heap
from tokenfold.reach import MOST_HEAPS
from tokenfold.texts import read_net

# Two shortest rows lead over (0, 0, 1): x by its place ahead of y.
FORK = read_net(["place a 1", "place b 0", "place c 0", "fire z : b -> c", "fire x : a -> c", "fire y : a -> 2 c"])


def over(heap, other):
    return all(many >= few for many, few in zip(heap, other))


def ahead(net, firing, heap):
    """What is before the heap by the firing, as the document tells it."""
    takes = dict(firing[2])
    gives = dict(firing[3])
    return tuple([takes.get(name, 0) + max(0, count - gives.get(name, 0)) for (name, _), count in zip(net[0], heap)])


def levels_told(net, heap, most):
    """What covered tells but for the row, the levels gone through one by one as the document tells them."""
    level = [heap]
    before = None
    number = 1
    while True:
        if any(over(start_heap(net), one) for one in level):
            return ("row", number - 1)
        if before is not None and set(before) == set(level):
            return ("never", sorted(level))
        if len(level) > most or number == most + 1:
            return ("great", most)
        found = set(level) | {ahead(net, firing, one) for one in level for firing in net[1]}
        before = level
        level = [one for one in found if not any(over(one, other) for other in found if other != one)]
        number += 1


def first_row(net, heap, length):
    """Of the rows of that length that lead over the heap the first, all gone through."""
    for row in itertools.product([firing[0] for firing in net[1]], repeat=length):
        try:
            if over(gone(net, start_heap(net), list(row)), heap):
                return list(row)
        except ValueError:
            pass
    return None


def told(net, heap, most):
    try:
        return covered(net, heap, most=most)
    except TooGreat as error:
        return ("great", error.most)


class Rows(unittest.TestCase):

    def test_of_length_0(self):
        for heap in [(1, 1, 0, 0), (0, 1, 0, 0), (0, 0, 0, 0)]:
            self.assertEqual(covered(DOOR, heap), ("row", []))

    def test_rows(self):
        self.assertEqual(covered(DOOR, (1, 0, 0, 1)), ("row", ["lose"]))
        self.assertEqual(covered(DOOR, (0, 0, 1, 0)), ("row", ["enter"]))
        self.assertEqual(covered(most=2000, heap=(0, 1, 3), net=WELL), ("row", ["draw", "pour"] * 3 + ["draw"]))
        self.assertEqual(covered(WELL, (1, 0, 2)), ("row", ["draw", "pour"] * 2))

    def test_over_not_just_to(self):
        self.assertEqual(covered(MILL, (0, 0, 0, 3)), ("row", ["begin", "begin", "end", "end"]))

    def test_the_first_of_the_shortest(self):
        self.assertEqual(covered(FORK, (0, 0, 1)), ("row", ["x"]))
        self.assertEqual(covered(FORK, (0, 0, 2)), ("row", ["y"]))
        net = read_net(["place a 2", "place b 0", "place c 0", "fire u : a -> c", "fire t : a -> b"])
        self.assertEqual(covered(net, (0, 1, 1)), ("row", ["u", "t"]))

    def test_against_levels_and_all_rows(self):
        chance = random.Random(20)
        rows = 0
        for _ in range(250):
            net = net_by_chance(chance, places=4, firings=4)
            heap = tuple([chance.randrange(4) for _ in net[0]])
            most = chance.choice([1, 2, 3, 4, 6, 10, 30])
            shown = levels_told(net, heap, most)
            if shown[0] != "row":
                self.assertEqual(told(net, heap, most), shown, (net, heap, most))
                continue
            answer = told(net, heap, most)
            self.assertEqual((answer[0], len(answer[1])), shown, (net, heap, most))
            if shown[1] <= 5:
                rows += shown[1] > 1
                self.assertEqual(answer[1], first_row(net, heap, shown[1]), (net, heap))
        self.assertGreater(rows, 10)


class Never(unittest.TestCase):

    def test_the_basis(self):
        self.assertEqual(covered(DOOR, (0, 1, 0, 1)),
                         ("never", [(0, 0, 1, 1), (0, 0, 2, 0), (0, 1, 0, 1), (0, 1, 1, 0), (0, 2, 0, 0)]))
        self.assertEqual(covered(((("a", 2),), ()), (3,)), ("never", [(3,)]))
        self.assertEqual(covered(((("a", 0), ("b", 0)), (("t", "", (("a", 2),), (("b", 1),)),)), (0, 2)),
                         ("never", [(0, 2), (2, 1), (4, 0)]))

    def test_in_pythons_order(self):
        answer = covered(WELL, (1, 1, 0))
        self.assertEqual(answer, ("never", [(0, 2, 0), (1, 1, 0), (2, 0, 0)]))
        self.assertEqual(answer[1], sorted(answer[1]))

    def test_a_net_whose_heaps_have_no_end(self):
        self.assertEqual(covered(WELL, (2, 0, 0)), ("never", [(0, 2, 0), (1, 1, 0), (2, 0, 0)]))
        self.assertEqual(covered(MILL, (0, 3, 0, 0))[0], "never")

    def test_great_counts(self):
        net = ((("a", 10 ** 9 - 1), ("b", 0)), (("t", "", (("a", 10 ** 9 - 1),), (("b", 10 ** 9 - 1),)),))
        self.assertEqual(covered(net, (0, 10 ** 9 - 1)), ("row", ["t"]))
        self.assertEqual(covered(net, (0, 10 ** 9)), ("never", [(0, 10 ** 9), (10 ** 9 - 1, 1), (2 * 10 ** 9 - 2, 0)]))
        self.assertEqual(covered(net, (10 ** 40, 0)), ("never", [(10 ** 40, 0)]))


class Great(unittest.TestCase):

    def test_of_the_heaps_of_a_level(self):
        net = read_net(["place a 0", "place b 0", "place c 0", "fire s : b -> a", "fire t : c -> a"])
        # Levels: one heap, three, six, and again just these six.
        self.assertEqual(levels_told(net, (2, 0, 0), 6)[0], "never")
        for most in range(1, 9):
            with self.subTest(most):
                self.assertEqual(told(net, (2, 0, 0), most)[0], "never" if most >= 6 else "great")
                self.assertEqual(told(net, (2, 0, 0), most), levels_told(net, (2, 0, 0), most))

    def test_of_the_number_of_the_level(self):
        net = ((("a", 0),), (("t", "", (), (("a", 1),)),))
        # From (3,) on (2,), (1,), (0,): the start is over one of the fourth.
        for most in range(1, 6):
            with self.subTest(most):
                self.assertEqual(told(net, (3,), most), ("row", ["t"] * 3) if most >= 3 else ("great", most))
        self.assertEqual(told(net, (2001,), MOST_HEAPS), ("great", 2000))
        self.assertEqual(covered(net, (2000,)), ("row", ["t"] * 2000))
        with self.assertRaises(TooGreat) as caught:
            covered(net, (10 ** 9,))
        self.assertEqual(caught.exception.most, 2000)

    def test_the_last_level_like_the_one_ahead_is_asked_first(self):
        # One heap at each level: the second is like the first, and is the (1 + 1)-th.
        self.assertEqual(told(((("a", 0),), ()), (1,), 1), ("never", [(1,)]))
        # The start is over one of the second, which is the (1 + 1)-th and has more heaps than 1.
        net = read_net(["place a 0", "place b 1", "fire t : b -> a"])
        self.assertEqual(told(net, (1, 0), 1), ("row", ["t"]))

    def test_the_field_is_most(self):
        for most in [1, 2, 3]:
            self.assertEqual(told(((("a", 0),), (("t", "", (), (("a", 1),)),)), (50,), most), ("great", most))


class Refused(unittest.TestCase):

    def test_in_order(self):
        for ask in [lambda net, heap: covered(net, heap, most=1), lambda net, heap: covered_wrong(net, heap, None)]:
            for thing, wrong in NO_NETS:
                with self.assertRaises(NoNet) as caught:
                    ask(thing, None)
                self.assertEqual(caught.exception.wrong, wrong)
            for heap, wrong in [(None, ("heap",)), ((1, 0), ("heap",)), ([1, 0, 0], ("heap",)), ((1, False, 0), ("place", 1)),
                                ((1, 0, -1), ("place", 2)), ((1, 0, None), ("place", 2))]:
                with self.assertRaises(NoHeap) as caught:
                    ask(WELL, heap)
                self.assertEqual(caught.exception.wrong, wrong)


class Told(unittest.TestCase):

    def test_lists_are_new(self):
        for heap in [(1, 0, 0, 1), (2, 0, 0, 0)]:
            self.assertTrue(is_deeply_fresh(lambda: covered(DOOR, heap)))

    def test_fast_over_a_basis_of_some_hundred_heaps(self):
        names = [f"p{k}" for k in range(12)]
        places = tuple([(name, 0) for name in names])
        fires = tuple([(f"t{k}", "", ((names[k + 1], 1),), ((names[k], 1),)) for k in range(11)])
        begin = time.perf_counter()
        net = (places, fires)
        answer = covered(net, (4,) + (0,) * 11)
        self.assertEqual(len(answer[1]), 1365)
        self.assertIsNone(covered_wrong(net, (4,) + (0,) * 11, answer))
        self.assertLess(time.perf_counter() - begin, 20)


class Judge(unittest.TestCase):

    NEVER = [(0, 2, 0), (1, 1, 0), (2, 0, 0)]

    def wrong(self, heap, thing):
        return covered_wrong(WELL, heap, thing)

    def test_right_papers(self):
        for heap in [(1, 0, 0), (0, 0, 0), (0, 1, 3), (2, 0, 0), (1, 1, 1)]:
            self.assertIsNone(self.wrong(heap, covered(WELL, heap)))
        for heap in itertools.product(range(3), repeat=4):
            self.assertIsNone(covered_wrong(DOOR, heap, covered(DOOR, heap)))

    def test_a_longer_row(self):
        self.assertIsNone(self.wrong((0, 1, 1), ("row", ["draw", "pour"] * 4 + ["draw"])))
        self.assertIsNone(self.wrong((0, 0, 0), ("row", ["draw"])))

    def test_another_basis(self):
        self.assertIsNone(self.wrong((2, 0, 0), ("never", self.NEVER[::-1])))
        self.assertIsNone(self.wrong((2, 0, 0), ("never", self.NEVER + self.NEVER[1:])))
        self.assertIsNone(self.wrong((2, 0, 5), ("never", self.NEVER)))
        self.assertIsNone(self.wrong((2, 0, 0), ("never", self.NEVER + [(3, 0, 7)])))

    def test_no_papers(self):
        for thing in STRANGE + [["never", self.NEVER], ("never", tuple(self.NEVER)), ("never", self.NEVER + [[2, 0, 0]]),
                                ("never", self.NEVER + [(2, 0)]), ("never", self.NEVER + [(2, 0, -1)]),
                                ("never", self.NEVER + [(2, 0, True)]), ("never", self.NEVER, 0), ("row", ("draw",)),
                                ("row", ["pail"]), ("row", ["draw", "x"]), ("row", ["draw"], 1), ("never", ["draw"])]:
            with self.subTest(thing):
                self.assertEqual(self.wrong((2, 0, 0), thing),
                                 ("end",) if thing == ("row", []) else ("goal",) if thing == ("never", []) else ("paper",))

    def test_row(self):
        self.assertEqual(self.wrong((1, 0, 0), ("row", ["pour"])), ("row", 0))
        self.assertEqual(self.wrong((1, 0, 0), ("row", ["draw", "pour", "drink", "draw"])), ("row", 2))

    def test_end(self):
        self.assertEqual(self.wrong((2, 0, 0), ("row", [])), ("end",))
        self.assertEqual(self.wrong((0, 0, 2), ("row", ["draw", "pour"])), ("end",))

    def test_goal_ahead_of_before(self):
        self.assertEqual(self.wrong((2, 0, 0), ("never", [])), ("goal",))
        self.assertEqual(self.wrong((2, 0, 0), ("never", [(3, 0, 0)])), ("goal",))
        self.assertEqual(self.wrong((2, 0, 0), ("never", [(2, 0, 1)])), ("goal",))

    def test_before_ahead_of_start(self):
        self.assertEqual(self.wrong((2, 0, 0), ("never", [(2, 0, 0)])), ("before", 0, 1))
        self.assertEqual(self.wrong((2, 0, 0), ("never", [(2, 0, 0), (1, 1, 0)])), ("before", 1, 1))
        self.assertEqual(self.wrong((2, 0, 0), ("never", [(1, 1, 0), (2, 0, 0)])), ("before", 0, 1))
        self.assertEqual(self.wrong((0, 2, 0), ("never", [(0, 2, 0), (2, 0, 0)])), ("before", 0, 0))
        self.assertEqual(self.wrong((0, 1, 0), ("never", [(0, 1, 0)])), ("before", 0, 0))
        self.assertEqual(self.wrong((0, 0, 1), ("never", [(0, 0, 1)])), ("before", 0, 1))

    def test_start(self):
        self.assertEqual(self.wrong((1, 0, 0), ("never", [(0, 1, 0), (1, 0, 0)])), ("start", 1))
        self.assertEqual(self.wrong((0, 0, 0), ("never", [(0, 0, 0)])), ("start", 0))
        self.assertEqual(self.wrong((2, 0, 0), ("never", self.NEVER + [(0, 1, 0), (0, 0, 0), (1, 0, 0)])), ("start", 4))

    def test_what_is_handed_in_stays(self):
        for heap in [(2, 0, 0), (0, 0, 2)]:
            answer = covered(WELL, heap)
            self.wrong(heap, answer)
            self.assertEqual(answer, covered(WELL, heap))


if __name__ == "__main__":
    unittest.main()
