import unittest

from samples import MILL, NO_NETS
from tokenfold.nets import net_wrong

A = ("a", 1)
B = ("b", 0)
C = ("c", 2)
GREATEST = 999999999


def of_places(*places):
    return (places, ())


def of_firings(*firings):
    return ((A, B, C), firings)


def of_parts(takes, gives):
    return of_firings(("t", "", takes, gives))


class NetWrong(unittest.TestCase):

    def test_nets(self):
        for net in [MILL, of_places(A), of_firings(), of_parts((), ())]:
            with self.subTest(net):
                self.assertIsNone(net_wrong(net))

    def test_anything_that_is_no_net(self):
        for thing, wrong in NO_NETS:
            with self.subTest(thing):
                self.assertEqual(net_wrong(thing), wrong)

    def test_by_its_name(self):
        self.assertIsNone(net_wrong(thing=MILL))

    def test_deep_things(self):
        deep = ()
        for _ in range(100000):
            deep = (deep,)
        self.assertEqual(net_wrong(deep), ("net",))
        self.assertEqual(net_wrong(((deep, A), ())), ("place", 0))
        self.assertEqual(net_wrong(((("a", deep),), ())), ("place", 0))
        self.assertEqual(net_wrong(((A,), (deep,))), ("firing", 0))
        self.assertEqual(net_wrong(((A,), (("t", deep, (), ()),))), ("firing", 0))


class Names(unittest.TestCase):

    def test_names(self):
        for name in ["a", "z", "a0", "z9", "abcdefgh", "a1234567", "placea", "fired", "ass", "plac", "net"]:
            with self.subTest(name):
                self.assertIsNone(net_wrong(of_places((name, 0))))
                self.assertIsNone(net_wrong(of_firings((name, name, (), ()))))

    def test_no_names(self):
        for name in ["", "abcdefghi", "place", "fire", "as", "0", "1a", "A", "aB", "a b", " a", "a ", "a-", "a_",
                     "\xe4", "a\xb2", "a\u0663", "a\n", None, True, 1, ("a",), ["a"], ()]:
            with self.subTest(name):
                self.assertEqual(net_wrong(of_places((name, 0))), ("place", 0))
                self.assertEqual(net_wrong(of_firings((name, "", (), ()))), ("firing", 0))
                self.assertEqual(net_wrong(of_parts(((name, 1),), ())), ("firing", 0))
                if name != "":
                    self.assertEqual(net_wrong(of_firings(("t", name, (), ()))), ("firing", 0))


class Places(unittest.TestCase):

    def test_starts(self):
        for start in [0, 1, GREATEST]:
            with self.subTest(start):
                self.assertIsNone(net_wrong(of_places(A, ("p", start))))

    def test_no_starts(self):
        for start in [-1, GREATEST + 1, 10 ** 30, True, False, None, "1", (1,), [1]]:
            with self.subTest(start):
                self.assertEqual(net_wrong(of_places(A, ("p", start))), ("place", 1))

    def test_no_place(self):
        for place in [None, True, 5, "ab", ["b", 1], (), ("b",), ("b", 1, 1), (1, "b"), (("b", 1),)]:
            with self.subTest(place):
                self.assertEqual(net_wrong(of_places(A, place, None)), ("place", 1))

    def test_names_twice(self):
        self.assertEqual(net_wrong(of_places(A, B, ("a", 5))), ("place", 2))
        self.assertEqual(net_wrong(of_places(A, B, C, B, A)), ("place", 3))

    def test_the_first_is_told(self):
        self.assertEqual(net_wrong(of_places(None, None)), ("place", 0))
        self.assertEqual(net_wrong(((A, None), (None,))), ("place", 1))


class Firings(unittest.TestCase):

    def test_firings(self):
        firings = [("t", "", (), ()), ("a", "b", (A,), ()), ("s", "t", (A, C), (A, C)), ("r", "t", (), (C,))]
        self.assertIsNone(net_wrong(of_firings(*firings)))

    def test_a_firing_may_be_called_as_a_place(self):
        self.assertIsNone(net_wrong(of_firings(("a", "", (), ()), ("b", "a", (), ()))))

    def test_labels_may_be_alike(self):
        self.assertIsNone(net_wrong(of_firings(("t", "x", (), ()), ("u", "x", (), ()))))

    def test_no_firing(self):
        good = ("t", "", (), ())
        for firing in [None, False, 3, "tkxy", list(good), (), ("t",), ("t", "", ()), ("t", "", (), (), ()),
                       ("t", "", [], ()), ("t", "", (), []), ("t", "", "", ()), ("t", "", (), ""),
                       ("t", "", None, ()), ("t", "", (), 0), ("t", None, (), ()), ("t", (), (), ()),
                       ("t", [], (), ()), ("t", "", ("ab",), ()), ("t", "", ("a", 1), ()), ("t", "", (["a", 1],), ())]:
            with self.subTest(firing):
                self.assertEqual(net_wrong(of_firings(("s", "", (), ()), firing, None)), ("firing", 1))

    def test_counts(self):
        for count in [1, 2, GREATEST]:
            with self.subTest(count):
                self.assertIsNone(net_wrong(of_parts((("b", count),), (("b", count),))))

    def test_no_counts(self):
        for count in [0, -1, GREATEST + 1, True, False, None, "1", (1,)]:
            with self.subTest(count):
                self.assertEqual(net_wrong(of_parts((A, ("b", count)), ())), ("firing", 0))
                self.assertEqual(net_wrong(of_parts((), (A, ("b", count)))), ("firing", 0))

    def test_parts_that_are_no_pairs(self):
        for part in [None, "ab", (), ("a",), ("a", 1, 1), ["a", 1], (1, "a"), 7]:
            with self.subTest(part):
                self.assertEqual(net_wrong(of_parts((part,), ())), ("firing", 0))
                self.assertEqual(net_wrong(of_parts((), (A, part))), ("firing", 0))

    def test_names_twice(self):
        t = ("t", "", (), ())
        self.assertEqual(net_wrong(of_firings(t, ("u", "", (), ()), ("t", "x", (A,), ()))), ("firing", 2))


class Parts(unittest.TestCase):

    def test_of_no_place(self):
        self.assertEqual(net_wrong(of_parts((("x", 1),), ())), ("part", 0, 0))
        self.assertEqual(net_wrong(of_parts((A, ("x", 1)), ())), ("part", 0, 1))
        self.assertEqual(net_wrong(of_parts((A,), (("b", 1), ("x", 1)))), ("part", 0, 2))
        self.assertEqual(net_wrong(of_parts((("t", 1),), ())), ("part", 0, 0))

    def test_out_of_order(self):
        self.assertEqual(net_wrong(of_parts((C, A), ())), ("part", 0, 1))
        self.assertEqual(net_wrong(of_parts((), (A, C, ("b", 1)))), ("part", 0, 2))
        self.assertEqual(net_wrong(of_parts((C,), (C, A))), ("part", 0, 2))

    def test_twice(self):
        self.assertEqual(net_wrong(of_parts((A, A), ())), ("part", 0, 1))
        self.assertEqual(net_wrong(of_parts((A,), (C, C))), ("part", 0, 2))

    def test_the_order_is_the_places_and_of_each_tuple_its_own(self):
        self.assertIsNone(net_wrong(((("z", 0), ("a", 0)), (("t", "", (("z", 1), ("a", 1)), ()),))))
        self.assertIsNone(net_wrong(of_parts((A, C), (A, C))))

    def test_firings_in_order_each_ahead_of_its_parts(self):
        strange = ("t", "", (("x", 1),), ())
        self.assertEqual(net_wrong(of_firings(strange, None)), ("part", 0, 0))
        self.assertEqual(net_wrong(of_firings(None, strange)), ("firing", 0))
        self.assertEqual(net_wrong(of_parts((("x", 1), ("b", 0)), ())), ("firing", 0))
        self.assertEqual(net_wrong(of_parts((("x", 1),), (("b", 0),))), ("firing", 0))
        self.assertEqual(net_wrong(of_parts((("x", 1),), (("y", 1),))), ("part", 0, 0))


class Great(unittest.TestCase):

    def places(self, many):
        return tuple([(f"p{k}", k) for k in range(many)])

    def firings(self, many):
        return tuple([(f"t{k}", "", (("p0", 1),), ()) for k in range(many)])

    def test_just_so_many(self):
        self.assertIsNone(net_wrong((self.places(40), self.firings(60))))

    def test_too_many(self):
        self.assertEqual(net_wrong((self.places(41), ())), ("great",))
        self.assertEqual(net_wrong((self.places(1), self.firings(61))), ("great",))

    def test_behind_all_else(self):
        self.assertEqual(net_wrong((self.places(41) + (None,), ())), ("place", 41))
        self.assertEqual(net_wrong((self.places(41), (None,))), ("firing", 0))
        self.assertEqual(net_wrong((self.places(1), self.firings(61) + (("x", "", (("y", 1),), ()),))), ("part", 61, 0))


if __name__ == "__main__":
    unittest.main()
