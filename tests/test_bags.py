import itertools
import unittest

from samples import MILL
from tokenfold.errors import NoBag, NoHeap, NoNet, Stuck
from tokenfold.firing import at_once, can, gone

START = (3, 2, 0, 0)


class AtOnce(unittest.TestCase):

    def test_together(self):
        self.assertEqual(at_once(MILL, START, (("begin", 2), ("rain", 1))), (2, 0, 2, 0))
        self.assertEqual(at_once(MILL, (1, 1, 1, 3), (("begin", 1), ("end", 1), ("bake", 1))), (0, 1, 1, 2))
        self.assertEqual(at_once(bag=(("end", 1),), heap=(0, 0, 1, 0), net=MILL), (0, 1, 0, 2))
        self.assertIs(type(at_once(MILL, START, ())), tuple)

    def test_the_empty_bag(self):
        self.assertEqual(at_once(MILL, START, ()), START)

    def test_great_counts(self):
        self.assertEqual(at_once(MILL, START, (("rain", 10 ** 40),)), (10 ** 40 + 3, 2, 0, 0))
        heap = (10 ** 12, 10 ** 13, 7, 0)
        self.assertEqual(at_once(MILL, heap, (("begin", 10 ** 12),)), (0, 9 * 10 ** 12, 10 ** 12 + 7, 0))

    def test_a_bag_that_lacks_though_each_can_alone(self):
        net = ((("a", 0), ("b", 1), ("c", 5)), (("s", "", (("b", 1), ("c", 1)), ()), ("t", "", (("b", 1),), ())))
        heap = (0, 1, 5)
        self.assertEqual(can(net, heap), ["s", "t"])
        with self.assertRaises(Stuck) as caught:
            at_once(net, heap, (("s", 1), ("t", 1)))
        self.assertEqual((caught.exception.at, caught.exception.place), (0, "b"))

    def test_what_is_given_is_not_there_to_take(self):
        with self.assertRaises(Stuck) as caught:
            at_once(MILL, (1, 1, 0, 0), (("begin", 1), ("end", 1)))
        self.assertEqual((caught.exception.at, caught.exception.place), (0, "busy"))
        net = ((("a", 1),), (("t", "", (("a", 1),), (("a", 1),)),))
        self.assertEqual(gone(net, (1,), ["t", "t"]), (1,))
        with self.assertRaises(Stuck):
            at_once(net, (1,), (("t", 2),))

    def test_stuck_at_0_by_the_first_place(self):
        for heap, bag, place in [((1, 2, 0, 0), (("begin", 2),), "grain"), ((2, 1, 0, 0), (("begin", 2),), "idle"),
                                 ((1, 1, 0, 0), (("begin", 2),), "grain"),
                                 ((0, 0, 0, 0), (("end", 1), ("bake", 1)), "busy"),
                                 ((0, 0, 1, 5), (("end", 1), ("bake", 2)), "flour"),
                                 ((0, 0, 0, 0), (("begin", 1), ("bake", 1), ("rain", 5)), "grain")]:
            with self.subTest((heap, bag)):
                with self.assertRaises(Stuck) as caught:
                    at_once(MILL, heap, bag)
                self.assertEqual((caught.exception.at, caught.exception.place), (0, place))

    def test_just_enough(self):
        self.assertEqual(at_once(MILL, (2, 2, 1, 6), (("begin", 2), ("end", 1), ("bake", 2))), (0, 1, 2, 2))

    def test_each_row_of_the_bag_comes_to_that_heap(self):
        heap = (3, 2, 1, 3)
        bag = (("begin", 2), ("end", 1), ("bake", 1), ("rain", 1))
        for row in itertools.permutations(["begin", "begin", "end", "bake", "rain"]):
            self.assertEqual(gone(MILL, heap, list(row)), at_once(MILL, heap, bag))

    def test_no_bags(self):
        things = [None, True, 0, "", "begin", [], [("begin", 1)], ("begin",), ("begin", 1), (None,), (["begin", 1],),
                  (("begin",),), (("begin", 1, 1),), ((),), ((1, "begin"),), ((["begin"], 1),), ((None, 1),),
                  (("begin", 0),), (("begin", -1),), (("begin", True),), (("begin", None),), (("begin", "1"),),
                  (("begin", (1,)),), (("end", 1), ("begin", 1)), (("begin", 1), ("begin", 1)), (("x", 1),),
                  (("grain", 1),), (("go", 1),), (("", 1),), (("begin", 1), ("x", 1)), (("x", 1), ("begin", 1)),
                  (("begin", 1), ("end", False)), (("begin", 1), None), (("begin", 1), ("rain", 1), ("bake", 1))]
        for thing in things:
            with self.subTest(thing):
                with self.assertRaises(NoBag):
                    at_once(MILL, START, thing)

    def test_refused_in_order(self):
        for net, heap, bag, kind in [(None, None, None, NoNet), (MILL, None, None, NoHeap), (MILL, (0,), (), NoHeap),
                                     (MILL, (0, 0, 0, 0), (("begin", 1), ("x", 1)), NoBag),
                                     (MILL, (0, 0, 0, 0), (("begin", 1), ("end", 1)), Stuck)]:
            with self.subTest((heap, bag)):
                with self.assertRaises(kind):
                    at_once(net, heap, bag)
        with self.assertRaises(NoHeap) as caught:
            at_once(MILL, (0, 0, 0, True), None)
        self.assertEqual(caught.exception.wrong, ("place", 3))


if __name__ == "__main__":
    unittest.main()
