import unittest

from samples import MILL, MILL_TEXT, NO_NETS, is_fresh
from tokenfold.errors import NoNet, NoText
from tokenfold.nets import net_wrong
from tokenfold.texts import printed, read_net, rows_of


def firing_of(row):
    """The firing that a row of one tells."""
    return read_net(["place a 0", row])[1][0]


class ReadNet(unittest.TestCase):

    def test_the_net_is_told(self):
        self.assertEqual(read_net(MILL_TEXT), MILL)
        self.assertEqual(read_net(text=MILL_TEXT), MILL)

    def test_places_alone(self):
        self.assertEqual(read_net(["place a 7"]), ((("a", 7),), ()))

    def test_kinds(self):
        places, firings = read_net(MILL_TEXT)
        self.assertIs(type(places), tuple)
        self.assertIs(type(firings), tuple)
        self.assertTrue(all(type(place) is tuple and type(place[1]) is int for place in places))

    def test_rows_that_are_passed_over(self):
        text = ["", "   ", "--", "-- place x", "   --%A", "-->", "place a 0", "", "--fire", "fire t : 0 -> 0", "  "]
        self.assertEqual(read_net(text), ((("a", 0),), (("t", "", (), ()),)))

    def test_blanks_wherever_they_like(self):
        told = ("t", "l", (("a", 2), ("b", 1)), ())
        for row in ["fire t as l : 2 a + b -> 0", "fire t as l:2 a+b->0", "  fire  t  as  l  :  2  a  +  b  ->  0  "]:
            with self.subTest(row):
                self.assertEqual(firing_of(row), told)
        self.assertEqual(read_net(["  place   a   5  "]), ((("a", 5),), ()))

    def test_parts(self):
        self.assertEqual(firing_of("fire t : 0 -> 0"), ("t", "", (), ()))
        self.assertEqual(firing_of("fire t : a -> b"), ("t", "", (("a", 1),), (("b", 1),)))
        self.assertEqual(firing_of("fire t : b + 2 a -> 999999999 b"),
                         ("t", "", (("b", 1), ("a", 2)), (("b", 999999999),)))

    def test_parts_stand_as_they_are_written(self):
        self.assertEqual(firing_of("fire t : a + x + 3 a -> 0")[2], (("a", 1), ("x", 1), ("a", 3)))

    def test_numbers(self):
        for number in ["0", "9", "10", "100", "123456789", "999999999"]:
            with self.subTest(number):
                self.assertEqual(read_net([f"place a {number}"])[0], (("a", int(number)),))

    def test_names(self):
        for name in ["a", "z9", "abcdefgh", "placea", "firefire", "asas", "pla", "fir"]:
            with self.subTest(name):
                self.assertEqual(read_net([f"place {name} 1"])[0], ((name, 1),))
                self.assertEqual(firing_of(f"fire {name} as {name} : {name} -> 2 {name}"),
                                 (name, name, ((name, 1),), ((name, 2),)))

    def test_whether_names_are_there_or_twice_is_not_looked_at(self):
        self.assertEqual(read_net(["place a 0", "place a 1", "fire t : x -> 0", "fire t : 0 -> 0"]),
                         ((("a", 0), ("a", 1)), (("t", "", (("x", 1),), ()), ("t", "", (), ()))))

    def test_greater_texts_are_read(self):
        text = [f"place p{k} 0" for k in range(41)] + [f"fire t{k} : 0 -> 0" for k in range(300)]
        net = read_net(text)
        self.assertEqual((len(net[0]), len(net[1])), (41, 300))
        self.assertEqual(net_wrong(net), ("great",))

    def test_what_is_handed_in_stays(self):
        text = list(MILL_TEXT)
        read_net(text)
        rows_of(text)
        self.assertEqual(text, MILL_TEXT)


class Printed(unittest.TestCase):

    def test_rows(self):
        self.assertEqual(printed(MILL), MILL_TEXT[1:])
        self.assertEqual(printed(net=MILL), MILL_TEXT[1:])

    def test_just_so(self):
        net = ((("a", 0), ("b", 999999999)), (("t", "", (("a", 1), ("b", 2)), ()), ("u", "l", (), (("b", 1),))))
        self.assertEqual(printed(net), ["place a 0", "place b 999999999", "fire t : a + 2 b -> 0",
                                        "fire u as l : 0 -> b"])

    def test_read_again(self):
        nets = [MILL, read_net(["place a 0"])]
        nets.append(((("a", 1),), (("a", "a", (("a", 1),), (("a", 999999999),)), ("b", "a", (), ()))))
        for net in nets:
            with self.subTest(net):
                self.assertEqual(read_net(printed(net)), net)

    def test_refuses_what_is_no_net(self):
        for thing, wrong in NO_NETS:
            with self.subTest(thing):
                with self.assertRaises(NoNet) as caught:
                    printed(thing)
                self.assertEqual(caught.exception.wrong, wrong)

    def test_a_new_list_each_time(self):
        self.assertTrue(is_fresh(lambda: printed(MILL)))


class RowsOf(unittest.TestCase):

    def test_numbers_of_rows(self):
        places, firings = rows_of(MILL_TEXT)
        self.assertEqual(list(places.items()), [("grain", 2), ("idle", 3), ("busy", 4), ("flour", 5)])
        self.assertEqual(list(firings.items()), [("begin", 6), ("end", 7), ("bake", 8), ("rain", 9)])

    def test_rows_passed_over_count(self):
        text = ["", "--", "place b 0", "  ", "place a 0", "-- x", "fire t : 0 -> 0"]
        told = rows_of(text=text)
        self.assertEqual(told, ({"b": 3, "a": 5}, {"t": 7}))
        self.assertIs(type(told), tuple)
        self.assertEqual(list(told[0]), ["b", "a"])

    def test_of_a_name_twice_the_first_row(self):
        text = ["place a 0", "place b 0", "place a 1", "fire t : 0 -> 0", "fire s : 0 -> 0", "fire t : 0 -> 0"]
        self.assertEqual(rows_of(text), ({"a": 1, "b": 2}, {"t": 4, "s": 5}))

    def test_a_name_of_both(self):
        self.assertEqual(rows_of(["place a 0", "fire a : 0 -> 0"]), ({"a": 1}, {"a": 2}))

    def test_without_firings(self):
        self.assertEqual(rows_of(["place a 0"]), ({"a": 1}, {}))

    def test_refused_as_read_net(self):
        for text, row, column in [([], 1, 1), (["place a"], 1, 8), (["place a 0", "fire t : 1 a -> 0"], 2, 10)]:
            with self.subTest(text):
                with self.assertRaises(NoText) as caught:
                    rows_of(text)
                self.assertEqual((caught.exception.row, caught.exception.column), (row, column))

    def test_new_dicts_each_time(self):
        self.assertTrue(is_fresh(lambda: rows_of(MILL_TEXT)[0]))
        self.assertTrue(is_fresh(lambda: rows_of(MILL_TEXT)[1]))


if __name__ == "__main__":
    unittest.main()
