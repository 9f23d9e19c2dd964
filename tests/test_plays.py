import unittest

from samples import DOOR, MILL, NO_NETS, WELL, is_fresh
from tokenfold.errors import NoBack, NoFiring, NoNet, Stuck
from tokenfold.plays import Play

START = (3, 2, 0, 0)


def played(net, *names):
    """A play that fired these."""
    play = Play(net)
    for name in names:
        play.fire(name)
    return play


def standing(play):
    """All that a play tells."""
    return (play.heap(), play.trail(), play.words(), len(play), play.net())


class Equal:
    """What is equal to everything, if it is asked."""

    def __eq__(self, other):
        return True


class Fires(unittest.TestCase):

    def test_stands_at_the_start(self):
        self.assertEqual(standing(Play(MILL)), (START, [], [], 0, MILL))
        self.assertEqual(standing(Play(net=WELL)), ((1, 0, 0), [], [], 0, WELL))

    def test_fire_tells_the_heap(self):
        play = Play(MILL)
        self.assertEqual(play.fire("begin"), (2, 1, 1, 0))
        self.assertEqual(play.fire(name="rain"), (3, 1, 1, 0))
        self.assertEqual(play.fire("end"), (3, 2, 0, 2))
        self.assertEqual(standing(play), ((3, 2, 0, 2), ["begin", "rain", "end"], ["go"], 3, MILL))

    def test_words_leave_silent_ones_out(self):
        self.assertEqual(played(DOOR, "enter", "leave", "lose").words(), ["go", "oh"])

    def test_more_than_nine_figures(self):
        net = ((("a", 999999999),), (("t", "", (), (("a", 999999999),)),))
        self.assertEqual(played(net, "t", "t").heap(), (2999999997,))

    def test_no_net(self):
        for thing, wrong in NO_NETS:
            with self.subTest(thing):
                with self.assertRaises(NoNet) as caught:
                    Play(thing)
                self.assertEqual(caught.exception.wrong, wrong)


class Refused(unittest.TestCase):

    def test_no_firing_changes_nothing(self):
        play = played(MILL, "begin")
        kept = standing(play)
        for name in ["x", "", "grain", "go", None, True, 0, ("begin",), ["begin"]]:
            with self.subTest(name):
                with self.assertRaises(NoFiring) as caught:
                    play.fire(name)
                self.assertEqual(caught.exception.name, name)
                self.assertEqual(standing(play), kept)

    def test_stuck_changes_nothing(self):
        play = played(MILL, "begin", "begin")
        kept = standing(play)
        for name, place in [("begin", "idle"), ("bake", "flour")]:
            with self.assertRaises(Stuck) as caught:
                play.fire(name)
            self.assertEqual((caught.exception.at, caught.exception.place), (0, place))
            self.assertEqual(standing(play), kept)
        self.assertEqual(play.fire("end"), (1, 1, 1, 2))

    def test_no_back_changes_nothing(self):
        play = Play(MILL)
        with self.assertRaises(NoBack):
            play.back()
        self.assertEqual(standing(play), (START, [], [], 0, MILL))
        self.assertEqual(play.fire("rain"), (4, 2, 0, 0))


class Back(unittest.TestCase):

    def test_takes_the_last_back(self):
        play = played(MILL, "begin", "end", "rain")
        heaps = [(3, 2, 0, 2), (2, 2, 0, 2), (2, 1, 1, 0), START]
        for at, heap in enumerate(heaps):
            self.assertEqual(standing(play)[:2], (heap, ["begin", "end", "rain"][:3 - at]))
            if at < 3:
                self.assertIsNone(play.back())
        with self.assertRaises(NoBack):
            play.back()

    def test_as_many_as_fire(self):
        play = played(WELL, *["draw", "pour"] * 5, "drink")
        for _ in range(11):
            play.back()
        with self.assertRaises(NoBack):
            play.back()
        self.assertEqual(standing(play), ((1, 0, 0), [], [], 0, WELL))

    def test_goes_on_behind_back(self):
        play = played(DOOR, "enter")
        play.back()
        self.assertEqual(play.fire("lose"), (1, 0, 0, 1))
        self.assertEqual(play.trail(), ["lose"])

    def test_a_firing_that_gives_what_it_takes(self):
        net = ((("a", 2),), (("t", "", (("a", 2),), (("a", 3),)),))
        play = played(net, "t", "t")
        self.assertEqual(play.heap(), (4,))
        play.back()
        self.assertEqual(play.heap(), (3,))


class Copies(unittest.TestCase):

    def test_stands_as_this_one(self):
        play = played(MILL, "begin", "end")
        self.assertEqual(standing(play.copy()), standing(play))
        self.assertIsInstance(play.copy(), Play)
        self.assertIsNot(play.copy(), play)

    def test_goes_on_by_itself(self):
        play = played(MILL, "begin")
        other = play.copy()
        kept = standing(play)
        other.fire("end")
        other.fire("rain")
        self.assertEqual(standing(play), kept)
        other.back()
        other.back()
        other.back()
        self.assertEqual(standing(play), kept)
        self.assertEqual(standing(other), standing(Play(MILL)))

    def test_the_first_one_goes_on_by_itself(self):
        play = played(MILL, "begin")
        other = play.copy()
        kept = standing(other)
        play.fire("begin")
        play.back()
        play.back()
        play.fire("rain")
        self.assertEqual(standing(other), kept)


class Equality(unittest.TestCase):

    def test_the_same_heap_by_other_rows(self):
        self.assertTrue(played(MILL, "begin", "rain") == played(MILL, "rain", "begin"))
        self.assertFalse(played(MILL, "begin", "rain") != played(MILL, "rain", "begin"))
        self.assertTrue(Play(DOOR) == played(DOOR, "enter", "leave"))
        self.assertTrue(Play(DOOR) == Play(DOOR).copy())

    def test_other_heaps(self):
        self.assertFalse(Play(MILL) == played(MILL, "rain"))
        self.assertTrue(Play(MILL) != played(MILL, "rain"))

    def test_other_nets_with_the_same_heap(self):
        self.assertFalse(Play(((("a", 1),), ())) == Play(((("b", 1),), ())))
        self.assertFalse(Play(((("a", 1),), ())) == Play(((("a", 1),), (("t", "", (), ()),))))
        other = ((("a", 0),), (("t", "", (), (("a", 1),)),))
        same = ((("a", 1),), (("t", "", (), (("a", 1),)),))
        self.assertEqual(played(other, "t").heap(), Play(same).heap())
        self.assertFalse(played(other, "t") == Play(same))

    def test_the_same_net_made_anew(self):
        self.assertTrue(Play(((("a", 1),), ())) == Play(((("a", 1),), ())))

    def test_nothing_else(self):
        play = Play(MILL)
        for thing in [None, START, (MILL, START), "", "Play", 0, True, False, [], [START], Equal(), MILL, Play]:
            with self.subTest(thing):
                self.assertFalse(play == thing)
                self.assertTrue(play != thing)


class Told(unittest.TestCase):

    def test_told_lists_are_new(self):
        play = played(MILL, "begin", "end")
        self.assertTrue(is_fresh(play.trail))
        self.assertTrue(is_fresh(play.words))
        told = play.trail()
        told.append("rain")
        self.assertEqual(standing(play), ((2, 2, 0, 2), ["begin", "end"], ["go"], 2, MILL))
        play.back()
        self.assertEqual(told, ["begin", "end", "rain"])

    def test_heaps_are_tuples(self):
        play = Play(MILL)
        self.assertIs(type(play.heap()), tuple)
        self.assertIs(type(play.fire("rain")), tuple)


if __name__ == "__main__":
    unittest.main()
