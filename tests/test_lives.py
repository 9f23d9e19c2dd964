"""Firings that live, and heaps that are home."""

import time
import unittest

from samples import DOOR, DOOR_HEAPS, MILL, NO_NETS, STRANGE, WELL, is_deeply_fresh, ring
from tokenfold.errors import NoFiring, NoHeap, NoNet, TooGreat
from tokenfold.lives import home, home_wrong, homes, life, life_wrong
from tokenfold.texts import read_net

# Once left, its ring goes round for ever: out can't again, in and on can.
RING = read_net(["place way 1", "place a 0", "place b 0", "fire out : way -> a", "fire on : a -> b", "fire in : b -> a",
                 "fire no : way + a -> 0"])
RING_HEAPS = [(1, 0, 0), (0, 1, 0), (0, 0, 1)]
NO_ROWS = [None, (), ("out",), "out", ["x"], ["way"], ["out", None], [0], [["out"]], [True]]
NO_LOTS = [None, (), tuple(RING_HEAPS), RING_HEAPS + [RING_HEAPS[0]], RING_HEAPS + [None], RING_HEAPS + [(0, 0)],
           RING_HEAPS + [(True, 0, 0)], RING_HEAPS + [(0, 0, -1)], [list(heap) for heap in RING_HEAPS], "", [0],
           [(heap, 0) for heap in RING_HEAPS]]


def with_numbers(heaps, numbers):
    return list(zip(heaps, numbers))


NO_NUMBERED = [None, (), tuple(with_numbers(RING_HEAPS, [2, 1, 0])), RING_HEAPS, with_numbers(RING_HEAPS, [2, 1, -1]),
               with_numbers(RING_HEAPS, [2, 1, True]), with_numbers(RING_HEAPS, [2, 1, None]),
               with_numbers(RING_HEAPS, [2, 1, "0"]), with_numbers(RING_HEAPS + RING_HEAPS[:1], [2, 1, 0, 5]),
               with_numbers(RING_HEAPS + [(0, 0)], [2, 1, 0, 5]), [list(row) for row in with_numbers(RING_HEAPS, [2, 1, 0])],
               [(heap, 0, 0) for heap in RING_HEAPS], [(heap,) for heap in RING_HEAPS], [None], [()], "", 0,
               with_numbers(RING_HEAPS + [None], [2, 1, 0, 5]), with_numbers(RING_HEAPS + [(0, 0, False)], [2, 1, 0, 5])]


class Life(unittest.TestCase):

    def told(self, net, name):
        told = life(net, name)
        self.assertIsNone(life_wrong(net, name, told))
        return told

    def test_live(self):
        word, rows = self.told(RING, "on")
        self.assertEqual((word, sorted(heap for heap, _ in rows)), ("live", sorted(RING_HEAPS)))
        self.assertEqual(self.told(ring(3, 2), "t1")[0], "live")
        net = ((("a", 0),), (("t", "", (), ()),))
        self.assertEqual(self.told(net, "t")[0], "live")

    def test_dead(self):
        word, heaps = self.told(RING, "no")
        self.assertEqual((word, sorted(heaps)), ("dead", sorted(RING_HEAPS)))
        self.assertEqual(self.told(((("a", 0),), (("t", "", (("a", 1),), ()),)), "t"), ("dead", [(0,)]))

    def test_some(self):
        told = self.told(RING, "out")
        self.assertEqual((told[0], len(told)), ("some", 4))
        for name in ["enter", "leave", "lose"]:
            self.assertEqual(self.told(DOOR, name)[0], "some")

    def test_some_of_which_it_can_where_another_row_leads(self):
        net = read_net(["place a 1", "place b 0", "place c 0", "fire t : a -> b", "fire u : a -> c", "fire v : c -> 0"])
        self.assertEqual(life(net, "v"), ("some", ["u"], ["t"], [(0, 1, 0)]))

    def test_refused_in_order(self):
        for thing, wrong in NO_NETS:
            for ask in [lambda: life(thing, "x", most=1), lambda: life_wrong(thing, "x", None)]:
                with self.assertRaises(NoNet) as caught:
                    ask()
                self.assertEqual(caught.exception.wrong, wrong)
        for name in ["x", "", "way", None, True, 0, ("on",), ["on"], []]:
            for ask in [lambda: life(RING, name, most=1), lambda: life_wrong(RING, name, None)]:
                with self.assertRaises(NoFiring) as caught:
                    ask()
                self.assertEqual(caught.exception.name, name)

    def test_too_great(self):
        for most in range(1, 6):
            if most < 3:
                with self.assertRaises(TooGreat) as caught:
                    life(most=most, name="on", net=RING)
                self.assertEqual(caught.exception.most, most)
            else:
                self.assertEqual(life(RING, "on", most=most)[0], "live")
        with self.assertRaises(TooGreat) as caught:
            life(WELL, "draw")
        self.assertEqual(caught.exception.most, 2000)

    def test_told_lists_are_new(self):
        for name in ["on", "out", "no"]:
            self.assertTrue(is_deeply_fresh(lambda: life(RING, name)))


class LifeWrong(unittest.TestCase):

    def test_no_papers(self):
        things = STRANGE + [("live",), ("dead",), ("some",), ("live", [], []), ("dead", [], []), ("some", [], []),
                            ("some", [], [], [], []), ["dead", RING_HEAPS], ("Live", []), (None, []), "live"]
        things += [("live", rows) for rows in NO_NUMBERED] + [("dead", heaps) for heaps in NO_LOTS]
        things += [("some", row, [], []) for row in NO_ROWS] + [("some", [], row, []) for row in NO_ROWS]
        things += [("some", [], [], heaps) for heaps in NO_LOTS]
        for thing in things:
            with self.subTest(thing):
                self.assertEqual(life_wrong(RING, "out", thing), ("paper",))

    def test_live(self):
        right = with_numbers(RING_HEAPS, [1, 0, 1])
        for rows, wrong in [(right, None), (right[::-1], None), (with_numbers(RING_HEAPS, [9, 3, 9]), None),
                            (with_numbers(RING_HEAPS, [9, 3, 4]), None), (right[1:], ("begin",)), ([], ("begin",)),
                            (right[:1], ("follows", 0, "out")), (right[:2], ("follows", 1, "on")),
                            (right[:1] + right[2:], ("follows", 0, "out")), ([right[0], right[2]], ("follows", 0, "out")),
                            ([right[2], right[0]], ("follows", 0, "in")), (with_numbers(RING_HEAPS, [0, 0, 1]), ("down", 0)),
                            (with_numbers(RING_HEAPS, [1, 1, 1]), ("down", 0)), (with_numbers(RING_HEAPS, [2, 1, 1]), ("down", 2)),
                            (with_numbers(RING_HEAPS, [1, 0, 0]), ("down", 2)), (right + [((0, 0, 0), 5)], ("down", 3)),
                            (right + [((2, 0, 0), 5)], ("follows", 3, "out")),
                            (with_numbers(RING_HEAPS[:1] + [(0, 3, 0)], [0, 0]), ("follows", 0, "out"))]:
            with self.subTest(rows):
                self.assertEqual(life_wrong(RING, "on", ("live", rows)), wrong)

    def test_live_where_it_can_there_needs_no_step(self):
        self.assertIsNone(life_wrong(((("a", 0),), (("t", "", (), ()),)), "t", ("live", [((0,), 0)])))
        self.assertEqual(life_wrong(RING, "no", ("live", with_numbers(RING_HEAPS, [1, 0, 1]))), ("down", 1))
        self.assertEqual(life_wrong(RING, "out", ("live", with_numbers(RING_HEAPS, [0, 1, 2]))), ("down", 1))

    def test_dead(self):
        for name, heaps, wrong in [("no", RING_HEAPS, None), ("no", RING_HEAPS[::-1], None), ("no", RING_HEAPS[1:], ("begin",)),
                                   ("no", [], ("begin",)), ("no", RING_HEAPS[:1], ("follows", 0, "out")),
                                   ("no", RING_HEAPS[:2], ("follows", 1, "on")), ("on", RING_HEAPS, ("bad", 1)),
                                   ("out", RING_HEAPS[::-1], ("bad", 2)), ("out", RING_HEAPS[:1], ("follows", 0, "out")),
                                   ("no", RING_HEAPS + [(0, 0, 0)], None), ("no", RING_HEAPS + [(0, 0, 2)], ("follows", 3, "in")),
                                   ("no", RING_HEAPS + [(1, 1, 0), (0, 2, 0), (1, 0, 1), (0, 1, 1), (0, 0, 2), (0, 0, 0)],
                                    ("bad", 3))]:
            with self.subTest((name, heaps)):
                self.assertEqual(life_wrong(RING, name, ("dead", heaps)), wrong)

    def test_some(self):
        there = RING_HEAPS[1:]
        for row, other, heaps, wrong in [
                ([], ["out"], there, None), ([], ["out", "on", "in", "on"], there[::-1], None), ([], ["out"], there + [(0, 0, 0)], None),
                (["on"], ["on"], there, ("row", 0)), (["out", "out"], [], [], ("row", 1)), (["out"], ["on"], [], ("end",)),
                (["out", "on"], ["out"], there, ("end",)), ([], ["on"], there, ("row", 0)), ([], ["out", "in"], there, ("row", 1)),
                ([], [], there, ("begin",)), ([], ["out"], there[1:], ("begin",)), ([], ["out"], [], ("begin",)),
                ([], ["out"], there[:1], ("follows", 0, "on")), ([], ["out", "on"], there[1:], ("follows", 0, "in")),
                ([], ["out"], there + [(0, 2, 0)], ("follows", 2, "on")), ([], [], RING_HEAPS, ("bad", 0)),
                ([], ["out"], there + [(1, 0, 0)], ("bad", 2)), ([], ["out"], [(1, 0, 0), (0, 1, 0)], ("follows", 1, "on"))]:
            with self.subTest((row, other, heaps)):
                self.assertEqual(life_wrong(RING, "out", ("some", row, other, heaps)), wrong)

    def test_the_rows_of_other_are_counted_on(self):
        there = [(1, 0, 0, 1)]
        for row, other, wrong in [(["enter"], ["lose"], None), (["enter"], ["leave"], ("row", 1)),
                                  (["enter", "leave", "enter"], ["lose", "lose"], ("row", 4)),
                                  (["enter", "enter"], ["leave"], ("row", 1)), (["enter", "leave"], ["leave"], ("end",))]:
            self.assertEqual(life_wrong(DOOR, "leave", ("some", row, other, there)), wrong)

    def test_what_is_handed_in_stays(self):
        for name in ["on", "out", "no"]:
            told = life(RING, name)
            life_wrong(RING, name, told)
            self.assertEqual(told, life(RING, name))


class Homes(unittest.TestCase):

    def test_in_the_order_of_reach(self):
        self.assertEqual(homes(RING), [(0, 1, 0), (0, 0, 1)])
        self.assertEqual(homes(net=DOOR, most=3), [(1, 0, 0, 1)])

    def test_all(self):
        net = ring(3, 1)
        self.assertEqual(homes(net), [(1, 0, 0), (0, 1, 0), (0, 0, 1)])
        self.assertEqual(homes(((("a", 2),), ())), [(2,)])

    def test_none(self):
        net = read_net(["place a 1", "place b 0", "place c 0", "fire t : a -> b", "fire u : a -> c"])
        self.assertEqual(homes(net), [])
        net = read_net(["place a 1", "place b 0", "place c 0", "fire t : a -> b", "fire u : a -> c", "fire v : b -> b"])
        self.assertEqual(homes(net), [])

    def test_refused_as_reach(self):
        for thing, wrong in NO_NETS:
            with self.assertRaises(NoNet) as caught:
                homes(thing)
            self.assertEqual(caught.exception.wrong, wrong)
        for net, most in [(DOOR, 1), (DOOR, 2), (WELL, 30), (MILL, 2000)]:
            with self.assertRaises(TooGreat) as caught:
                homes(net, most=most)
            self.assertEqual(caught.exception.most, most)

    def test_told_lists_are_new(self):
        self.assertTrue(is_deeply_fresh(lambda: homes(RING)))


class Home(unittest.TestCase):

    def told(self, net, heap):
        told = home(net, heap)
        self.assertIsNone(home_wrong(net, heap, told))
        return told

    def test_home(self):
        word, rows = self.told(RING, (0, 0, 1))
        self.assertEqual((word, sorted(heap for heap, _ in rows)), ("home", sorted(RING_HEAPS)))
        self.assertEqual(self.told(DOOR, (1, 0, 0, 1))[0], "home")
        self.assertEqual(self.told(((("a", 2),), ()), (2,))[0], "home")

    def test_away(self):
        told = self.told(RING, (1, 0, 0))
        self.assertEqual((told[0], sorted(told[2])), ("away", sorted(RING_HEAPS[1:])))
        for heap in DOOR_HEAPS[:2]:
            self.assertEqual(self.told(DOOR, heap)[0], "away")

    def test_one_that_is_not_come_to(self):
        for heap in [(1, 1, 0), (0, 0, 0), (0, 2, 0), (5, 5, 5)]:
            self.assertEqual(self.told(RING, heap)[0], "away")

    def test_refused_in_order(self):
        for thing, wrong in NO_NETS:
            for ask in [lambda: home(thing, None, most=1), lambda: home_wrong(thing, None, None)]:
                with self.assertRaises(NoNet) as caught:
                    ask()
                self.assertEqual(caught.exception.wrong, wrong)
        for heap, wrong in [(None, ("heap",)), ((1, 0), ("heap",)), ([1, 0, 0], ("heap",)), ((1, True, 0), ("place", 1)),
                            ((1, 0, -1), ("place", 2))]:
            for ask in [lambda: home(RING, heap, most=1), lambda: home_wrong(RING, heap, None)]:
                with self.assertRaises(NoHeap) as caught:
                    ask()
                self.assertEqual(caught.exception.wrong, wrong)

    def test_too_great(self):
        for heap in [(1, 0, 0), (0, 0, 1), (9, 9, 9)]:
            for most in range(1, 5):
                if most < 3:
                    with self.assertRaises(TooGreat) as caught:
                        home(most=most, heap=heap, net=RING)
                    self.assertEqual(caught.exception.most, most)
                else:
                    home(RING, heap, most=most)
        with self.assertRaises(TooGreat) as caught:
            home(WELL, (1, 0, 0))
        self.assertEqual(caught.exception.most, 2000)

    def test_told_lists_are_new(self):
        for heap in RING_HEAPS:
            self.assertTrue(is_deeply_fresh(lambda: home(RING, heap)))


class HomeWrong(unittest.TestCase):

    def test_no_papers(self):
        things = STRANGE + [("home",), ("away",), ("home", [], []), ("away", []), ("away", [], [], []), ["away", [], []],
                            ("Home", []), (None, []), "home"]
        things += [("home", rows) for rows in NO_NUMBERED] + [("away", [], heaps) for heaps in NO_LOTS]
        things += [("away", row, []) for row in NO_ROWS]
        for thing in things:
            with self.subTest(thing):
                self.assertEqual(home_wrong(RING, (1, 0, 0), thing), ("paper",))

    def test_home(self):
        right = with_numbers(RING_HEAPS, [2, 1, 0])
        for rows, wrong in [(right, None), (right[::-1], None), (with_numbers(RING_HEAPS, [9, 8, 7]), None),
                            (right[1:], ("begin",)), ([], ("begin",)), (right[:1], ("follows", 0, "out")),
                            (right[:2], ("follows", 1, "on")), (with_numbers(RING_HEAPS, [1, 1, 0]), ("down", 0)),
                            (with_numbers(RING_HEAPS, [2, 1, 1]), ("down", 1)), (with_numbers(RING_HEAPS, [0, 0, 0]), ("down", 0)),
                            (right + [((0, 0, 0), 8)], ("down", 3)), (right + [((0, 0, 2), 8)], ("follows", 3, "in"))]:
            with self.subTest(rows):
                self.assertEqual(home_wrong(RING, (0, 0, 1), ("home", rows)), wrong)
        self.assertEqual(home_wrong(RING, (1, 0, 0), ("home", right)), ("down", 2))
        self.assertEqual(home_wrong(RING, (7, 7, 7), ("home", with_numbers(RING_HEAPS, [0, 2, 1]))), ("down", 0))

    def test_away(self):
        there = RING_HEAPS[1:]
        for row, heaps, wrong in [(["out"], there, None), (["out", "on"], there[::-1], None), (["on"], there, ("row", 0)),
                                  (["out", "on", "on"], there, ("row", 2)), ([], there, ("begin",)), (["out"], [], ("begin",)),
                                  (["out"], there[1:], ("begin",)), (["out"], there[:1], ("follows", 0, "on")),
                                  ([], RING_HEAPS, ("bad", 0)), (["out"], there + [(1, 0, 0)], ("bad", 2)),
                                  (["out"], there + [(0, 2, 0)], ("follows", 2, "on")),
                                  (["out"], [(1, 0, 0), (0, 1, 0)], ("follows", 1, "on"))]:
            with self.subTest((row, heaps)):
                self.assertEqual(home_wrong(RING, (1, 0, 0), ("away", row, heaps)), wrong)
        self.assertIsNone(home_wrong(RING, (9, 9, 9), ("away", [], RING_HEAPS)))

    def test_what_is_handed_in_stays(self):
        for heap in RING_HEAPS:
            told = home(RING, heap)
            home_wrong(RING, heap, told)
            self.assertEqual(told, home(RING, heap))


class Fast(unittest.TestCase):

    def test_two_thousand_heaps(self):
        begin = time.perf_counter()
        net = ring(4, 20)
        self.assertEqual(len(homes(net)), 1771)
        for heap in [(20, 0, 0, 0), (0, 5, 5, 10), (0, 0, 0, 1)]:
            told = home(net, heap)
            self.assertEqual(told[0], "home" if sum(heap) == 20 else "away")
            self.assertIsNone(home_wrong(net, heap, told))
        for name in ["t0", "t3"]:
            told = life(net, name)
            self.assertEqual(told[0], "live")
            self.assertIsNone(life_wrong(net, name, told))
        long = ((("a", 1999), ("b", 0)), (("t", "", (("a", 1),), (("b", 2),)),))
        self.assertEqual(homes(long), [(0, 3998)])
        self.assertIsNone(life_wrong(long, "t", life(long, "t")))
        self.assertLess(time.perf_counter() - begin, 20)


if __name__ == "__main__":
    unittest.main()
