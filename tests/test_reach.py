"""All heaps that are come to, ways to them, and what is dead or stirs there."""

import itertools
import random
import unittest

from samples import DOOR, DOOR_HEAPS, DOOR_STEPS, MILL, NO_NETS, STRANGE, WELL, changed, is_deeply_fresh
from samples import net_by_chance, ring
from tokenfold.errors import NoHeap, NoNet, TooGreat
from tokenfold.firing import can, fired, gone, start_heap
from tokenfold.reach import MOST_HEAPS, dead, reach, stirring, way, way_wrong
from tokenfold.texts import read_net

NEVER = (1, 1, 0, 1)
# From the start two firings lead to one heap, and by more than one row to the last.
FORK = read_net(["place a 2", "place b 0", "place c 0", "fire y : a -> c", "fire x : a -> b", "fire z : b -> c",
                 "fire w : a -> b"])


def of_most(ask, most):
    """The most that is refused with TooGreat, None where it isn't refused."""
    try:
        ask(most)
    except TooGreat as error:
        return error.most
    return None


class Reach(unittest.TestCase):

    def test_heaps_and_steps(self):
        self.assertEqual(reach(DOOR), (DOOR_HEAPS, DOOR_STEPS))
        self.assertEqual(reach(net=DOOR, most=3), (DOOR_HEAPS, DOOR_STEPS))

    def test_the_order(self):
        heaps, steps = reach(FORK)
        self.assertEqual(heaps, [(2, 0, 0), (1, 0, 1), (1, 1, 0), (0, 0, 2), (0, 1, 1), (0, 2, 0)])
        self.assertEqual(steps, [[("y", 1), ("x", 2), ("w", 2)], [("y", 3), ("x", 4), ("w", 4)],
                                 [("y", 4), ("x", 5), ("z", 1), ("w", 5)], [], [("z", 3)], [("z", 4)]])

    def test_the_start_alone(self):
        self.assertEqual(reach(((("a", 3),), ())), ([(3,)], [[]]))
        self.assertEqual(reach(((("a", 3),), (("t", "", (("a", 4),), ()),))), ([(3,)], [[]]))
        self.assertEqual(reach(((("a", 3),), (("t", "", (("a", 3),), (("a", 3),)),))), ([(3,)], [[("t", 0)]]))

    def test_kinds(self):
        told = reach(DOOR)
        self.assertEqual([type(told), type(told[0]), type(told[1]), type(told[1][0])], [tuple, list, list, list])

    def test_against_can_and_fired(self):
        chance = random.Random(15)
        ended = 0
        for _ in range(200):
            net = net_by_chance(chance)
            if of_most(lambda most: reach(net, most=most), 100) is not None:
                continue
            ended += 1
            heaps, steps = reach(net)
            self.assertEqual(heaps[0], start_heap(net))
            found = [heaps[0]]
            for heap, leads in zip(heaps, steps):
                self.assertEqual([name for name, _ in leads], can(net, heap))
                for name, number in leads:
                    self.assertEqual(heaps[number], fired(net, heap, name))
                    if heaps[number] not in found:
                        found.append(heaps[number])
            self.assertEqual(heaps, found)
            self.assertEqual(len(heaps), len(steps))
        self.assertGreater(ended, 50)

    def test_too_great_just_where_there_are_more(self):
        for net, many in [(DOOR, 3), (FORK, 6), (ring(4, 3), 20)]:
            for most in range(1, many + 3):
                with self.subTest((many, most)):
                    told = of_most(lambda most: reach(net, most=most), most)
                    self.assertEqual(told, most if most < many else None)
        self.assertIsNone(of_most(lambda most: reach(((("a", 0),), ()), most=most), 1))

    def test_heaps_without_an_end(self):
        for net in [MILL, WELL]:
            for most in [1, 2, 57, MOST_HEAPS]:
                self.assertEqual(of_most(lambda most: reach(net, most=most), most), most)
        self.assertEqual(of_most(lambda _: reach(WELL), None), 2000)

    def test_most_heaps(self):
        self.assertEqual(MOST_HEAPS, 2000)
        net = ((("a", 1999),), (("t", "", (("a", 1),), ()),))
        self.assertEqual(len(reach(net)[0]), 2000)
        net = ((("a", 2000),), (("t", "", (("a", 1),), ()),))
        self.assertEqual(of_most(lambda _: reach(net), None), 2000)
        self.assertEqual(len(reach(net, most=2001)[0]), 2001)

    def test_told_lists_are_new(self):
        self.assertTrue(is_deeply_fresh(lambda: reach(DOOR)))

    def test_two_thousand_heaps(self):
        heaps, steps = reach(ring(4, 20))
        self.assertEqual(len(heaps), 1771)
        self.assertEqual(set(heaps), {heap for heap in itertools.product(range(21), repeat=4) if sum(heap) == 20})
        told = way(ring(4, 20), heaps[-1])
        self.assertEqual(gone(ring(4, 20), heaps[0], told[1]), heaps[-1])
        told = way(ring(4, 20), (21, 0, 0, 0))
        self.assertEqual(told, ("never", heaps))
        self.assertIsNone(way_wrong(ring(4, 20), (21, 0, 0, 0), told))


class Way(unittest.TestCase):

    def test_rows(self):
        self.assertEqual(way(DOOR, (1, 0, 0, 1)), ("row", ["lose"]))
        self.assertEqual(way(DOOR, (0, 0, 1, 0)), ("row", ["enter"]))
        self.assertEqual(way(most=2000, heap=(1, 1, 0, 0), net=DOOR), ("row", []))

    def test_just_this_heap(self):
        self.assertEqual(way(WELL, (1, 0, 1)), ("row", ["draw", "pour"]))
        self.assertEqual(way(DOOR, (1, 0, 0, 0))[0], "never")

    def test_never_with_all_heaps(self):
        self.assertEqual(way(DOOR, NEVER), ("never", DOOR_HEAPS))
        self.assertEqual(way(DOOR, NEVER, most=3), ("never", DOOR_HEAPS))

    def test_the_first_of_the_shortest(self):
        self.assertEqual(way(FORK, (0, 0, 2)), ("row", ["y", "y"]))
        self.assertEqual(way(FORK, (0, 1, 1)), ("row", ["y", "x"]))
        self.assertEqual(way(FORK, (0, 2, 0)), ("row", ["x", "x"]))

    def test_against_all_rows(self):
        chance = random.Random(16)
        for _ in range(60):
            net = net_by_chance(chance, firings=3)
            names = [firing[0] for firing in net[1]]
            firsts = {}
            for length in range(5):
                for row in itertools.product(names, repeat=length):
                    try:
                        firsts.setdefault(gone(net, start_heap(net), list(row)), list(row))
                    except ValueError:
                        pass
            for heap, row in firsts.items():
                self.assertEqual(way(net, heap), ("row", row))
                self.assertIsNone(way_wrong(net, heap, ("row", row)))

    def test_too_great_where_it_is_not_among_the_first(self):
        heaps, _ = reach(FORK)
        for k, heap in enumerate(heaps):
            for most in range(1, 9):
                told = of_most(lambda most: way(FORK, heap, most=most), most)
                self.assertEqual(told, most if k >= most else None)
        for most in range(1, 9):
            self.assertEqual(of_most(lambda most: way(FORK, (3, 0, 0), most=most), most), most if most < 6 else None)

    def test_heaps_without_an_end(self):
        self.assertEqual(way(WELL, (1, 0, 4)), ("row", ["draw", "pour"] * 4))
        self.assertEqual(way(WELL, (1, 0, 0), most=1), ("row", []))
        self.assertEqual(way(WELL, (0, 1, 0), most=2), ("row", ["draw"]))
        self.assertEqual(of_most(lambda most: way(WELL, (1, 1, 0), most=most), 50), 50)
        self.assertEqual(of_most(lambda _: way(WELL, (1, 1, 0)), None), 2000)

    def test_refused_in_order(self):
        for thing, wrong in NO_NETS:
            with self.assertRaises(NoNet) as caught:
                way(thing, None)
            self.assertEqual(caught.exception.wrong, wrong)
        for heap, wrong in [(None, ("heap",)), ((1, 0), ("heap",)), ((1, 1, True), ("place", 2)), ((1, -1, 0), ("place", 1))]:
            with self.assertRaises(NoHeap) as caught:
                way(WELL, heap, most=1)
            self.assertEqual(caught.exception.wrong, wrong)

    def test_told_lists_are_new(self):
        for heap in [(1, 0, 0, 1), NEVER]:
            self.assertTrue(is_deeply_fresh(lambda: way(DOOR, heap)))


class WayWrong(unittest.TestCase):

    def wrong(self, heap, thing):
        return way_wrong(DOOR, heap, thing)

    def test_right_papers(self):
        for heap in DOOR_HEAPS + [NEVER, (0, 0, 0, 0)]:
            self.assertIsNone(self.wrong(heap, way(DOOR, heap)))

    def test_other_right_papers(self):
        self.assertIsNone(self.wrong((1, 0, 0, 1), ("row", ["enter", "leave", "lose"])))
        self.assertIsNone(self.wrong(NEVER, ("never", DOOR_HEAPS[::-1])))
        self.assertIsNone(self.wrong(NEVER, ("never", DOOR_HEAPS + DOOR_HEAPS)))
        self.assertIsNone(self.wrong(NEVER, ("never", [(9, 0, 0, 9)] + DOOR_HEAPS)))

    def test_no_papers(self):
        for thing in STRANGE:
            with self.subTest(thing):
                self.assertEqual(self.wrong((1, 0, 0, 1), thing),
                                 ("end",) if thing == ("row", []) else ("start",) if thing == ("never", []) else ("paper",))
        for thing in [("row", ("lose",)), ("row", ["x"]), ("row", ["lose", "go"]), ("row", ["key"]), ("row", ["lose", None]),
                      ("never", tuple(DOOR_HEAPS)), ("never", [list(heap) for heap in DOOR_HEAPS]),
                      ("never", DOOR_HEAPS + [(1, 1, 0)]), ("never", DOOR_HEAPS + [(1, 1, 0, 0, 0)]),
                      ("never", DOOR_HEAPS + [(1, 1, 0, -1)]), ("never", DOOR_HEAPS + [(1, True, 0, 0)]),
                      ("never", DOOR_HEAPS + [(1, None, 0, 0)]), ("never", DOOR_HEAPS + [None]), ["row", ["lose"]],
                      ("row", ["lose"], None), ("never", ["lose"]), ("row", DOOR_HEAPS)]:
            with self.subTest(thing):
                self.assertEqual(self.wrong((1, 0, 0, 1), thing), ("paper",))

    def test_row(self):
        self.assertEqual(self.wrong((1, 0, 0, 1), ("row", ["leave"])), ("row", 0))
        self.assertEqual(self.wrong((1, 0, 0, 1), ("row", ["enter", "leave", "leave", "lose"])), ("row", 2))
        self.assertEqual(self.wrong((0, 0, 0, 0), ("row", ["lose", "lose"])), ("row", 1))

    def test_end(self):
        self.assertEqual(self.wrong((1, 0, 0, 1), ("row", [])), ("end",))
        self.assertEqual(self.wrong((1, 0, 0, 0), ("row", ["lose"])), ("end",))
        self.assertEqual(self.wrong(NEVER, ("row", ["enter", "leave", "lose"])), ("end",))

    def test_start_ahead_of_open(self):
        self.assertEqual(self.wrong(NEVER, ("never", [])), ("start",))
        self.assertEqual(self.wrong(NEVER, ("never", [NEVER])), ("start",))
        self.assertEqual(self.wrong(NEVER, ("never", [(0, 0, 1, 0), (1, 0, 0, 1)])), ("start",))

    def test_open_ahead_of_there(self):
        self.assertEqual(self.wrong(NEVER, ("never", [(1, 1, 0, 0)])), ("open", 0, "enter"))
        self.assertEqual(self.wrong(NEVER, ("never", [(1, 1, 0, 0), (0, 0, 1, 0)])), ("open", 0, "lose"))
        self.assertEqual(self.wrong(NEVER, ("never", [(0, 0, 1, 0), (0, 0, 0, 0), (1, 1, 0, 0)])), ("open", 2, "lose"))
        self.assertEqual(self.wrong((0, 0, 1, 0), ("never", [(0, 0, 1, 0), (1, 1, 0, 0)])), ("open", 1, "lose"))
        self.assertEqual(self.wrong(NEVER, ("never", DOOR_HEAPS + [(0, 0, 2, 0)])), ("open", 3, "leave"))

    def test_there(self):
        for heap in DOOR_HEAPS:
            self.assertEqual(self.wrong(heap, ("never", DOOR_HEAPS)), ("there",))
        self.assertEqual(self.wrong((0, 0, 0, 5), ("never", DOOR_HEAPS + [(0, 0, 0, 5)])), ("there",))

    def test_where_heaps_have_no_end(self):
        self.assertIsNone(way_wrong(WELL, (1, 0, 7), ("row", ["draw", "pour"] * 7)))
        self.assertEqual(way_wrong(WELL, (1, 1, 0), ("never", [(1, 0, 0), (0, 1, 0)])), ("open", 1, "pour"))

    def test_refused(self):
        with self.assertRaises(NoNet):
            way_wrong(None, None, None)
        with self.assertRaises(NoHeap) as caught:
            way_wrong(DOOR, (1, 1, 0, False), None)
        self.assertEqual(caught.exception.wrong, ("place", 3))

    def test_what_is_handed_in_stays(self):
        for heap in [NEVER, (1, 0, 0, 1)]:
            told = way(DOOR, heap)
            way_wrong(DOOR, heap, told)
            self.assertEqual(told, way(DOOR, heap))


class DeadAndStirring(unittest.TestCase):

    def test_dead(self):
        self.assertEqual(dead(DOOR), [(1, 0, 0, 1)])
        self.assertEqual(dead(net=FORK, most=6), [(0, 0, 2)])
        net = read_net(["place a 1", "place b 0", "place c 0", "fire t : a -> c", "fire s : a -> b"])
        self.assertEqual(dead(net), [(0, 0, 1), (0, 1, 0)])
        self.assertEqual(dead(((("a", 0),), ())), [(0,)])

    def test_none_is_dead(self):
        self.assertEqual(dead(ring(3, 2)), [])
        self.assertEqual(dead(((("a", 0),), (("t", "", (), ()),))), [])

    def test_stirring(self):
        self.assertEqual(stirring(DOOR), ["enter", "leave", "lose"])
        net = read_net(["place a 1", "place b 0", "fire z : 2 b -> 0", "fire y : b -> a", "fire x : a -> b", "fire w : 2 a -> 0"])
        self.assertEqual(stirring(most=2, net=net), ["y", "x"])

    def test_none_stirs(self):
        self.assertEqual(stirring(((("a", 0),), ())), [])
        self.assertEqual(stirring(((("a", 0),), (("t", "", (("a", 1),), ()),))), [])

    def test_refused_as_reach(self):
        for ask in [dead, stirring]:
            for thing, wrong in NO_NETS:
                with self.assertRaises(NoNet) as caught:
                    ask(thing)
                self.assertEqual(caught.exception.wrong, wrong)
            for most in range(1, 5):
                self.assertEqual(of_most(lambda most: ask(DOOR, most=most), most), most if most < 3 else None)
            self.assertEqual(of_most(lambda _: ask(WELL), None), 2000)

    def test_told_lists_are_new(self):
        for ask in [dead, stirring]:
            told = ask(DOOR)
            changed(told)
            self.assertTrue(is_deeply_fresh(lambda: ask(DOOR)))
            self.assertNotEqual(ask(DOOR), [])


if __name__ == "__main__":
    unittest.main()
