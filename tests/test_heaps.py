import unittest

from samples import MILL, NO_NETS, is_fresh
from tokenfold.errors import NoFiring, NoHeap, NoNet, Stuck
from tokenfold.firing import can, fired, gone, heap_wrong, start_heap, words

START = (3, 2, 0, 0)
NO_HEAPS = [
    (None, ("heap",)), (True, ("heap",)), (4, ("heap",)), ("abcd", ("heap",)), ([3, 2, 0, 0], ("heap",)),
    ((), ("heap",)), ((3, 2, 0), ("heap",)), ((3, 2, 0, 0, 0), ("heap",)), ((None, 2, 0), ("heap",)),
    ((-1, 2, 0, 0), ("place", 0)), ((3, 2, 0, -1), ("place", 3)), ((3, True, 0, 0), ("place", 1)),
    ((3, 2, False, None), ("place", 2)), ((3, "2", 0, 0), ("place", 1)), ((3, 2, (0,), 0), ("place", 2)),
    ((3, 2, 0, None), ("place", 3)), (((), [], "", 0), ("place", 0)),
]
# Each place's part is just enough, or one too few, of it alone.
TOLL = (
    (("z", 5), ("a", 2), ("m", 0)),
    (
        ("pay", "", (("z", 2), ("a", 1), ("m", 3)), (("z", 1), ("m", 7))),
        ("a", "gift", (), (("a", 1),)),
        ("zz", "", (("a", 2),), ()),
    ),
)


class HeapWrong(unittest.TestCase):

    def test_heaps(self):
        for heap in [START, (0, 0, 0, 0), (10 ** 9, 10 ** 30, 0, 999999999)]:
            with self.subTest(heap):
                self.assertIsNone(heap_wrong(MILL, heap))

    def test_no_heaps(self):
        for thing, wrong in NO_HEAPS:
            with self.subTest(thing):
                self.assertEqual(heap_wrong(MILL, thing), wrong)

    def test_by_names(self):
        self.assertEqual(heap_wrong(thing=None, net=MILL), ("heap",))

    def test_no_net(self):
        for net, wrong in NO_NETS:
            with self.assertRaises(NoNet) as caught:
                heap_wrong(net, None)
            self.assertEqual(caught.exception.wrong, wrong)


class StartHeap(unittest.TestCase):

    def test_the_starts(self):
        self.assertEqual(start_heap(MILL), START)
        self.assertEqual(start_heap(net=TOLL), (5, 2, 0))
        self.assertIs(type(start_heap(MILL)), tuple)

    def test_no_net(self):
        for net, wrong in NO_NETS:
            with self.assertRaises(NoNet) as caught:
                start_heap(net)
            self.assertEqual(caught.exception.wrong, wrong)


class Can(unittest.TestCase):

    def test_in_order(self):
        self.assertEqual(can(MILL, START), ["begin", "rain"])
        self.assertEqual(can(MILL, (1, 1, 1, 3)), ["begin", "end", "bake", "rain"])
        self.assertEqual(can(MILL, (0, 0, 0, 0)), ["rain"])
        self.assertEqual(can(heap=(2, 1, 3), net=TOLL), ["pay", "a"])
        self.assertEqual(can(((("a", 0),), (("t", "", (("a", 1),), ()),)), (0,)), [])
        self.assertEqual(can(((("a", 0),), ()), (0,)), [])

    def test_just_enough_and_one_too_few(self):
        self.assertEqual(can(TOLL, (2, 2, 3)), ["pay", "a", "zz"])
        self.assertEqual(can(TOLL, (1, 2, 3)), ["a", "zz"])
        self.assertEqual(can(TOLL, (2, 1, 3)), ["pay", "a"])
        self.assertEqual(can(TOLL, (2, 0, 3)), ["a"])
        self.assertEqual(can(TOLL, (2, 2, 2)), ["a", "zz"])

    def test_more_than_nine_figures(self):
        self.assertEqual(can(TOLL, (10 ** 40, 10 ** 40, 10 ** 40)), ["pay", "a", "zz"])

    def test_a_new_list_each_time(self):
        self.assertTrue(is_fresh(lambda: can(MILL, START)))

    def test_refused(self):
        with self.assertRaises(NoNet):
            can(None, START)
        for thing, wrong in NO_HEAPS:
            with self.subTest(thing):
                with self.assertRaises(NoHeap) as caught:
                    can(MILL, thing)
                self.assertEqual(caught.exception.wrong, wrong)


class Fired(unittest.TestCase):

    def test_taken_and_given(self):
        self.assertEqual(fired(MILL, START, "begin"), (2, 1, 1, 0))
        self.assertEqual(fired(MILL, (0, 0, 1, 5), "end"), (0, 1, 0, 7))
        self.assertEqual(fired(MILL, (0, 0, 0, 3), "bake"), (0, 0, 0, 0))
        self.assertEqual(fired(name="rain", heap=(0, 0, 0, 0), net=MILL), (1, 0, 0, 0))
        self.assertEqual(fired(TOLL, (2, 1, 3), "pay"), (1, 0, 7))
        self.assertIs(type(fired(MILL, START, "begin")), tuple)

    def test_a_firing_called_as_a_place(self):
        self.assertEqual(fired(TOLL, (0, 0, 0), "a"), (0, 1, 0))

    def test_more_than_nine_figures(self):
        self.assertEqual(fired(MILL, (0, 0, 1, 999999999), "end"), (0, 1, 0, 1000000001))
        self.assertEqual(fired(MILL, (10 ** 30, 1, 0, 0), "begin"), (10 ** 30 - 1, 0, 1, 0))

    def test_stuck_by_one_too_few(self):
        for heap, place in [((1, 1, 3), "z"), ((2, 0, 3), "a"), ((2, 1, 2), "m"), ((1, 0, 2), "z"), ((2, 0, 2), "a"),
                            ((0, 0, 0), "z")]:
            with self.subTest(heap):
                with self.assertRaises(Stuck) as caught:
                    fired(TOLL, heap, "pay")
                self.assertEqual((caught.exception.at, caught.exception.place), (0, place))

    def test_what_it_gives_is_not_there_to_take(self):
        with self.assertRaises(Stuck) as caught:
            fired(TOLL, (2, 1, 0), "pay")
        self.assertEqual((caught.exception.at, caught.exception.place), (0, "m"))

    def test_refused_in_order(self):
        for net, heap, name, kind in [(None, None, "x", NoNet), (MILL, None, "x", NoHeap), (MILL, (0,), "end", NoHeap),
                                      (MILL, START, "x", NoFiring), (MILL, START, "end", Stuck)]:
            with self.subTest(kind):
                with self.assertRaises(kind):
                    fired(net, heap, name)

    def test_no_firing(self):
        for name in ["x", "", "grain", "go", None, True, 0, ("begin",), ["begin"], (["begin"],)]:
            with self.subTest(name):
                with self.assertRaises(NoFiring) as caught:
                    fired(MILL, START, name)
                self.assertEqual(caught.exception.name, name)


class Gone(unittest.TestCase):

    def test_one_by_one(self):
        self.assertEqual(gone(MILL, START, ["begin", "begin", "end", "rain", "end", "bake"]), (2, 2, 0, 1))
        self.assertEqual(gone(row=["rain"], heap=(0, 0, 0, 0), net=MILL), (1, 0, 0, 0))

    def test_the_empty_row(self):
        self.assertEqual(gone(MILL, START, []), START)

    def test_from_any_heap(self):
        self.assertEqual(gone(MILL, (0, 0, 2, 10 ** 20), ["end", "bake"]), (0, 1, 1, 10 ** 20 - 1))

    def test_long_rows(self):
        self.assertEqual(gone(MILL, START, ["rain"] * 5000), (5003, 2, 0, 0))

    def test_stuck_with_the_number_in_the_row(self):
        for row, at, place in [(["end"], 0, "busy"), (["begin", "end", "end"], 2, "busy"),
                               (["begin", "begin", "begin"], 2, "idle"),
                               (["begin", "end"] * 3 + ["begin"], 6, "grain"), (["rain", "bake", "end"], 1, "flour")]:
            with self.subTest(row):
                with self.assertRaises(Stuck) as caught:
                    gone(MILL, START, row)
                self.assertEqual((caught.exception.at, caught.exception.place), (at, place))

    def test_no_firing_ahead_of_stuck(self):
        with self.assertRaises(NoFiring) as caught:
            gone(MILL, START, ["end", "begin", "x", "y"])
        self.assertEqual(caught.exception.name, "x")

    def test_no_firing_is_the_first(self):
        with self.assertRaises(NoFiring) as caught:
            gone(MILL, START, ["begin", None, "x"])
        self.assertIsNone(caught.exception.name)

    def test_refused_in_order(self):
        for net, heap, row, kind in [([], (), ["x"], NoNet), (MILL, (), ["x"], NoHeap), (MILL, START, ["x"], NoFiring)]:
            with self.subTest(kind):
                with self.assertRaises(kind):
                    gone(net, heap, row)
        for thing, wrong in NO_HEAPS:
            with self.subTest(thing):
                with self.assertRaises(NoHeap) as caught:
                    gone(MILL, thing, [])
                self.assertEqual(caught.exception.wrong, wrong)

    def test_what_is_handed_in_stays(self):
        row = ["begin", "end"]
        gone(MILL, START, row)
        self.assertEqual(row, ["begin", "end"])


class Words(unittest.TestCase):

    def test_silent_ones_are_left_out(self):
        self.assertEqual(words(MILL, ["begin", "end", "rain", "bake", "begin"]), ["go", "bread", "go"])
        self.assertEqual(words(row=["rain", "end"], net=MILL), [])
        self.assertEqual(words(MILL, []), [])

    def test_whether_the_row_can_is_not_asked(self):
        self.assertEqual(words(MILL, ["bake", "bake"]), ["bread", "bread"])

    def test_refused(self):
        with self.assertRaises(NoNet):
            words(None, ["x"])
        with self.assertRaises(NoFiring) as caught:
            words(MILL, ["begin", "go", "x"])
        self.assertEqual(caught.exception.name, "go")
        with self.assertRaises(NoFiring) as caught:
            words(MILL, [[]])
        self.assertEqual(caught.exception.name, [])

    def test_a_new_list_each_time(self):
        row = ["begin", "bake"]
        self.assertTrue(is_fresh(lambda: words(MILL, row)))
        self.assertEqual(row, ["begin", "bake"])


if __name__ == "__main__":
    unittest.main()
