import random
import time
import unittest

from samples import DOOR, MILL, NO_NETS, STRANGE, WELL, is_deeply_fresh, net_by_chance, ring
from tokenfold.bounds import bound, bound_wrong, endless, stair_end, widest
from tokenfold.cover import covered
from tokenfold.errors import NoNet, NoPlace, NoStair, TooGreat
from tokenfold.firing import can, fired, start_heap
from tokenfold.reach import reach
from tokenfold.texts import read_net

LOOP = ["draw", "pour"]
NO_NAMES = ["x", "", "draw", None, True, 0, ("pail",), ["pail"]]


def over(heap, other):
    return all(many is None or (few is not None and many >= few) for many, few in zip(heap, other))


def in_order(wides):
    return sorted(wides, key=lambda wide: [(count is None, count or 0) for count in wide])


def wide_fired(net, wide, firing):
    """What the firing makes of the wide heap; None where it can't."""
    takes, gives = dict(firing[2]), dict(firing[3])
    if any(count is not None and count < takes.get(name, 0) for (name, _), count in zip(net[0], wide)):
        return None
    return tuple([None if count is None else count - takes.get(name, 0) + gives.get(name, 0)
                  for (name, _), count in zip(net[0], wide)])


def grown(net, limit):
    """All grown heaps, as the document tells them; None where there are more than the limit."""
    found = [start_heap(net)]
    ways = {found[0]: [found[0]]}
    for wide in found:
        for firing in net[1]:
            behind = wide_fired(net, wide, firing)
            if behind is None:
                continue
            before = None
            while before != behind:
                before = behind
                for one in ways[wide]:
                    if over(behind, one):
                        behind = tuple([None if many != few else many for many, few in zip(behind, one)])
            if behind not in ways:
                ways[behind] = ways[wide] + [behind]
                found.append(behind)
                if len(found) > limit:
                    return None
    return found


def widest_told(found):
    """Those of the wide heaps that are under no other one."""
    return in_order([one for one in found if not any(over(other, one) for other in found if other != one)])


def great(ask):
    try:
        ask()
    except TooGreat as error:
        return error.most
    return None


class Widest(unittest.TestCase):

    def test_where_heaps_have_an_end(self):
        self.assertEqual(widest(DOOR), [(0, 0, 1, 0), (1, 0, 0, 1), (1, 1, 0, 0)])
        self.assertEqual(widest(net=DOOR, most=3), [(0, 0, 1, 0), (1, 0, 0, 1), (1, 1, 0, 0)])
        self.assertEqual(widest(((("a", 3),), (("t", "", (("a", 1),), ()),))), [(3,)])
        self.assertEqual(widest(((("a", 3),), ())), [(3,)])

    def test_where_they_have_none(self):
        self.assertEqual(widest(WELL), [(0, 1, None), (1, 0, None)])
        self.assertEqual(widest(MILL), [(None, 0, 2, None), (None, 1, 1, None), (None, 2, 0, None)])

    def test_none_is_behind_all_counts(self):
        net = read_net(["place s 1", "place a 0", "place b 0", "place c 0", "fire t : s -> 2 a + c", "fire v : s -> b",
                        "fire w : b -> a + b"])
        self.assertEqual(widest(net), [(0, 2, 0, 1), (0, None, 1, 0), (1, 0, 0, 0)])

    def test_again_and_again(self):
        # x's loop grows a; what is over the start by that grows b too.
        net = read_net(["place p 1", "place a 0", "place b 0", "fire x : p -> p + a", "fire y : 3 a -> b"])
        self.assertEqual(widest(net), [(1, None, None)])

    def test_none_under_another(self):
        chance = random.Random(23)
        ends = 0
        for _ in range(300):
            net = net_by_chance(chance)
            found = grown(net, 150)
            if found is None:
                continue
            ends += all(None not in wide for wide in found)
            told = widest(net)
            self.assertEqual(told, widest_told(found), net)
            self.assertTrue(any(over(wide, start_heap(net)) for wide in told))
            for wide in told:
                # What is told can be come to, with as many as asked for at the places with None,
                few = tuple([5 if count is None else count for count in wide])
                self.assertEqual(covered(net, few)[0], "row", (net, wide))
                # and no firing leads beyond.
                for firing in net[1]:
                    behind = wide_fired(net, wide, firing)
                    self.assertTrue(behind is None or any(over(other, behind) for other in told))
        self.assertGreater(ends, 50)
        self.assertLess(ends, 250)

    def test_great_counts(self):
        many = 10 ** 9 - 1
        net = ((("a", many), ("b", 0)), (("t", "", (("a", many),), (("b", many),)), ("u", "", (("b", 1),), (("a", many),))))
        self.assertEqual(widest((net[0], net[1][:1])), [(0, many), (many, 0)])
        self.assertEqual(widest(net), [(None, None)])

    def test_a_net_of_many_heaps(self):
        net = ring(4, 20)
        self.assertEqual(widest(net), sorted(reach(net)[0]))
        told = bound(net, "p2")
        self.assertEqual(told[:2], ("most", 20))
        self.assertIsNone(bound_wrong(net, "p2", told))


    def test_an_end_that_shows_late(self):
        # First many heaps without None, then a well: of the first heaps alone it can't be told that there is no end.
        places = (("a", 60), ("b", 0), ("w", 0))
        first = ("t", "", (("a", 1),), (("b", 1),))
        well = ("u", "", (("b", 60),), (("b", 60), ("w", 1)))
        self.assertEqual(widest((places, (first,))), [(k, 60 - k, 0) for k in range(61)])
        net = (places, (first, well))
        self.assertEqual(widest(net), [(0, 60, None)] + [(k, 60 - k, 0) for k in range(1, 61)])
        self.assertEqual(endless(net), ["w"])
        self.assertEqual(great(lambda: widest(net, most=60)), 60)
        for place, told in [("a", ("most", 60)), ("b", ("most", 60)), ("w", ("more",))]:
            paper = bound(net, place)
            self.assertEqual(paper[:len(told)], told)
            self.assertIsNone(bound_wrong(net, place, paper))

    def test_an_end_that_shows_early(self):
        # One of the first heaps has None, and many follow.
        net = ((("a", 60), ("b", 0), ("w", 0)), (("u", "", (), (("w", 1),)), ("t", "", (("a", 1),), (("b", 1),))))
        self.assertEqual(widest(net), [(k, 60 - k, None) for k in range(61)])
        self.assertEqual(endless(net), ["w"])
        self.assertIsNone(bound_wrong(net, "b", bound(net, "b")))
        self.assertIsNone(great(lambda: widest(net, most=2 * 61)))

    def test_small_nets_at_once(self):
        for net in [WELL, MILL, DOOR]:
            begin = time.perf_counter()
            for _ in range(100):
                widest(net)
            self.assertLess(time.perf_counter() - begin, 0.2)


class Great(unittest.TestCase):

    ASKED = [lambda net, most: widest(net, most=most), lambda net, most: endless(net, most=most),
             lambda net, most: bound(net, net[0][0][0], most=most)]

    def test_at_a_low_most(self):
        for ask in self.ASKED:
            for net in [WELL, MILL, DOOR]:
                self.assertEqual(great(lambda: ask(net, 1)), 1)

    def test_not_where_rows_lead_to_at_most_most(self):
        for ask in self.ASKED:
            self.assertIsNone(great(lambda: ask(DOOR, 3)))
            net = ((("a", 1999),), (("t", "", (("a", 1),), ()),))
            self.assertIsNone(great(lambda: ask(net, 2000)))

    def test_not_where_a_tenth_is_grown(self):
        chance = random.Random(24)
        for _ in range(100):
            net = net_by_chance(chance)
            found = grown(net, 60)
            if found is not None:
                for ask in self.ASKED:
                    self.assertIsNone(great(lambda: ask(net, 10 * len(found))))


class Endless(unittest.TestCase):

    def test_in_order(self):
        self.assertEqual(endless(WELL), ["deep"])
        self.assertEqual(endless(most=2000, net=MILL), ["grain", "flour"])
        self.assertEqual(endless(DOOR), [])
        net = read_net(["place z 0", "place a 0", "place m 1", "fire t : m -> a + m", "fire s : m -> z", "fire r : z -> 2 z"])
        self.assertEqual(endless(net), ["z", "a"])


class Bound(unittest.TestCase):

    def test_most(self):
        for net, place, count in [(WELL, "pail", 1), (WELL, "full", 1), (MILL, "idle", 2), (MILL, "busy", 2), (DOOR, "lost", 1),
                                  (((("a", 5),), ()), "a", 5), (((("a", 0), ("b", 3)), ()), "a", 0)]:
            with self.subTest((place, count)):
                told = bound(net, place)
                self.assertEqual((told[0], told[1]), ("most", count))
                self.assertEqual(told[3], widest(net))
                number = [name for name, _ in net[0]].index(place)
                self.assertEqual(stair_end(net, told[2])[number], count)
                self.assertIsNone(bound_wrong(net, place, told))

    def test_more(self):
        for net, place in [(WELL, "deep"), (MILL, "grain"), (MILL, "flour")]:
            told = bound(most=100, place=place, net=net)
            self.assertEqual((told[0], len(told)), ("more", 2))
            number = [name for name, _ in net[0]].index(place)
            self.assertIsNone(stair_end(net, told[1])[number])
            self.assertIsNone(bound_wrong(net, place, told))

    def test_one_that_has_none_only_by_two_loops(self):
        net = read_net(["place p 1", "place a 0", "place q 0", "place b 0", "fire x : p -> p + a", "fire y : p + 5 a -> q",
                        "fire z : a + q -> q + b"])
        told = bound(net, "b")
        self.assertEqual(told[0], "more")
        self.assertEqual(stair_end(net, told[1])[3], None)
        self.assertGreaterEqual(len([loop for _, loop in told[1] if loop]), 2)
        self.assertIsNone(bound_wrong(net, "b", told))

    def test_against_reach(self):
        chance = random.Random(25)
        for _ in range(80):
            net = net_by_chance(chance)
            found = grown(net, 100)
            if found is None:
                continue
            for at, (place, _) in enumerate(net[0]):
                told = bound(net, place)
                counts = [wide[at] for wide in found]
                if None in counts:
                    self.assertEqual(told[0], "more")
                else:
                    self.assertEqual(told[:2], ("most", max(counts)))
                self.assertIsNone(bound_wrong(net, place, told), (net, place, told))
                self.assertEqual(place in endless(net), told[0] == "more")

    def test_refused_in_order(self):
        for thing, wrong in NO_NETS:
            for ask in [widest, endless, lambda net: bound(net, "x"), lambda net: bound_wrong(net, "x", None)]:
                with self.assertRaises(NoNet) as caught:
                    ask(thing)
                self.assertEqual(caught.exception.wrong, wrong)
        for name in NO_NAMES:
            for ask in [lambda: bound(WELL, name, most=1), lambda: bound_wrong(WELL, name, None)]:
                with self.assertRaises(NoPlace) as caught:
                    ask()
                self.assertEqual(caught.exception.place, name)

    def test_told_lists_are_new(self):
        for ask in [lambda: widest(WELL), lambda: endless(WELL), lambda: bound(WELL, "pail"), lambda: bound(WELL, "deep"),
                    lambda: bound(DOOR, "lost")]:
            self.assertTrue(is_deeply_fresh(ask))


# By form no stair of WELL.
NO_STAIRS = [None, True, 0, "", (), "draw", ((["draw"], []),), [None], [0], [""], [()], [[]], [([],)], [([], [], [])],
             [[[], []]], [("", "")], [([], None)], [(None, [])], [((), [])], [([], ())], [(["x"], [])], [([], ["x"])],
             [(["pail"], [])], [([None], [])], [([], [0])], [([["draw"]], [])], [([], []), None], [(["draw"], "draw")]]


class StairEnd(unittest.TestCase):

    def test_of_none(self):
        self.assertEqual(stair_end(WELL, []), (1, 0, 0))
        self.assertEqual(stair_end(WELL, [([], [])]), (1, 0, 0))

    def test_rows_and_loops(self):
        self.assertEqual(stair_end(WELL, [(["draw"], [])]), (0, 1, 0))
        self.assertEqual(stair_end(stair=[([], LOOP)], net=WELL), (1, 0, None))
        self.assertEqual(stair_end(WELL, [(["draw"], ["pour", "draw"]), (["pour"], [])]), (1, 0, None))
        self.assertEqual(stair_end(WELL, [(["draw", "pour"], []), (["draw"], [])]), (0, 1, 1))
        self.assertEqual(stair_end(WELL, [([], LOOP), (["drink", "drink", "draw"], [])]), (0, 1, None))

    def test_counts_stay_where_the_loop_has_as_many(self):
        self.assertEqual(stair_end(MILL, [([], ["rain"]), ([], ["begin", "end"])]), (None, 2, 0, None))

    def test_refused_by_form(self):
        for stair in NO_STAIRS:
            with self.subTest(stair):
                with self.assertRaises(NoStair) as caught:
                    stair_end(WELL, stair)
                self.assertEqual(caught.exception.wrong, ("paper",))

    def test_the_first_wrong(self):
        for stair, wrong in [([(["pour"], [])], ("row", 0, 0)), ([(["draw", "draw"], [])], ("row", 0, 1)),
                             ([([], LOOP), (["draw", "pour", "pour"], [])], ("row", 1, 2)),
                             ([([], ["pour"])], ("loop", 0, 0)), ([(["draw"], ["pour", "pour"])], ("loop", 0, 1)),
                             ([(["draw"], []), (["pour"], ["draw", "pour", "drink"])], ("over", 1)),
                             ([([], ["draw"])], ("over", 0)), ([(["draw"], ["pour"])], ("over", 0)),
                             ([([], LOOP), ([], LOOP)], ("over", 1)), ([([], LOOP), ([], ["drink"])], ("over", 1)),
                             ([([], ["draw"]), (["drink"], [])], ("over", 0)), ([(["pour"], ["drink"])], ("row", 0, 0)),
                             ([([], LOOP), ([], ["drink", "pour"]), (["pour"], [])], ("loop", 1, 1))]:
            with self.subTest(stair):
                with self.assertRaises(NoStair) as caught:
                    stair_end(WELL, stair)
                self.assertEqual(caught.exception.wrong, wrong)

    def test_a_loop_that_leads_nowhere_else(self):
        net = ((("a", 1),), (("t", "", (("a", 1),), (("a", 1),)),))
        with self.assertRaises(NoStair) as caught:
            stair_end(net, [([], ["t"])])
        self.assertEqual(caught.exception.wrong, ("over", 0))

    def test_no_net_ahead(self):
        for thing, wrong in NO_NETS:
            with self.assertRaises(NoNet) as caught:
                stair_end(thing, None)
            self.assertEqual(caught.exception.wrong, wrong)

    def test_what_is_handed_in_stays(self):
        stair = [(["draw"], ["pour", "draw"]), (["pour"], [])]
        stair_end(WELL, stair)
        self.assertEqual(stair, [(["draw"], ["pour", "draw"]), (["pour"], [])])


class Judge(unittest.TestCase):

    WIDES = [(0, 1, None), (1, 0, None)]

    def wrong(self, thing, place="pail"):
        return bound_wrong(WELL, place, thing)

    def test_other_right_papers(self):
        self.assertIsNone(self.wrong(("most", 1, [], self.WIDES)))
        self.assertIsNone(self.wrong(("most", 1, [([], [])], self.WIDES[::-1])))
        self.assertIsNone(self.wrong(("most", 1, [(["draw"], []), (["pour"], LOOP)], self.WIDES + self.WIDES)))
        self.assertIsNone(self.wrong(("most", 1, [], self.WIDES + [(0, 0, 3)])))
        self.assertIsNone(self.wrong(("more", [(["draw"], ["pour", "draw"])]), "deep"))

    def test_wider_than_widest(self):
        self.assertEqual(self.wrong(("most", 1, [], [(1, None, None)])), ("fires", 0, 1))
        self.assertIsNone(bound_wrong(DOOR, "lost", ("most", 1, [(["lose"], [])], [(1, 1, 0, 0), (0, 0, 1, 0), (5, 0, 0, 1)])))

    def test_no_papers(self):
        things = STRANGE + [("more",), ("more", [], []), ["more", []], ("most", 1, []), ("most", 1, [], [], []),
                            ["most", 1, [], self.WIDES], ("much", []), ("more", 1, [], self.WIDES), ("most", []),
                            ("most", [], 1, self.WIDES), (None, 1, [], self.WIDES)]
        things += [("more", stair) for stair in NO_STAIRS] + [("most", 1, stair, self.WIDES) for stair in NO_STAIRS]
        things += [("most", n, [], self.WIDES) for n in [True, False, -1, None, "1", (1,), [1], []]]
        things += [("most", 1, [], wides) for wides in [None, (), tuple(self.WIDES), "", 0, [None], [()], [(1, 0)],
                                                        [(1, 0, None, None)], [[1, 0, None]], [(1, 0, -1)], [(True, 0, None)],
                                                        [(1, "0", None)], self.WIDES + [(1, 0)], self.WIDES + [None]]]
        for thing in things:
            with self.subTest(thing):
                self.assertEqual(self.wrong(thing), ("paper",))

    def test_row_loop_over_in_order(self):
        for tail in [("most", 1, None, self.WIDES), ("more", None)]:
            for stair, wrong in [([(["pour"], ["drink"])], ("row", 0, 0)), ([(["draw", "pour", "pour"], [])], ("row", 0, 2)),
                                 ([(["draw"], ["draw"])], ("loop", 0, 0)), ([([], ["draw", "pour", "drink"])], ("loop", 0, 2)),
                                 ([([], ["draw"])], ("over", 0)), ([([], ["draw"]), (["draw"], [])], ("over", 0)),
                                 ([([], LOOP), ([], LOOP), (["pour"], [])], ("over", 1)),
                                 ([([], LOOP), (["draw"], ["draw"]), (["pour"], [])], ("loop", 1, 0)),
                                 ([(["draw"], []), (["draw"], []), ([], ["drink"])], ("row", 1, 0))]:
                with self.subTest((tail[0], stair)):
                    thing = tail[:-1] + (stair,) if tail[0] == "more" else (tail[0], tail[1], stair, tail[3])
                    self.assertEqual(self.wrong(thing), wrong)

    def test_end(self):
        self.assertEqual(self.wrong(("most", 1, [(["draw"], [])], self.WIDES)), ("end",))
        self.assertEqual(self.wrong(("most", 0, [], self.WIDES)), ("end",))
        self.assertEqual(self.wrong(("most", 2, [], [])), ("end",))
        self.assertEqual(self.wrong(("more", [])), ("end",))
        self.assertEqual(self.wrong(("more", [([], LOOP)])), ("end",))
        self.assertEqual(self.wrong(("more", [(LOOP, [])]), "deep"), ("end",))
        self.assertEqual(self.wrong(("most", 1, [([], LOOP)], self.WIDES), "deep"), ("end",))

    def test_start_ahead_of_fires(self):
        self.assertEqual(self.wrong(("most", 1, [], [])), ("start",))
        self.assertEqual(self.wrong(("most", 1, [], [(0, 1, None)])), ("start",))
        self.assertEqual(self.wrong(("most", 1, [], [(0, 0, None), (0, 9, 0)])), ("start",))

    def test_fires_ahead_of_most(self):
        self.assertEqual(self.wrong(("most", 1, [], [(1, 0, None)])), ("fires", 0, 0))
        self.assertEqual(self.wrong(("most", 1, [], [(1, 0, 0), (0, 1, None)])), ("fires", 1, 1))
        self.assertEqual(self.wrong(("most", 1, [], [(1, 0, 7), (0, 1, 7)])), ("fires", 1, 1))
        self.assertEqual(self.wrong(("most", 1, [], [(3, 0, None), (1, 1, None)])), ("fires", 0, 0))
        self.assertEqual(self.wrong(("most", 1, [], [(0, 0, 2), (1, 0, 0), (0, 1, 0)])), ("fires", 2, 1))

    def test_most(self):
        self.assertEqual(self.wrong(("most", 1, [], [(None, None, None)])), ("most", 0))
        self.assertEqual(self.wrong(("most", 1, [], self.WIDES + [(0, 0, 5), (2, 0, None), (1, 1, None), (0, 2, None)])),
                         ("most", 3))
        self.assertEqual(self.wrong(("most", 0, [(["draw"], [])], self.WIDES)), ("most", 1))
        self.assertEqual(self.wrong(("most", 2, [(["draw", "pour"] * 2, [])], self.WIDES), "deep"), ("most", 0))

    def test_what_is_handed_in_stays(self):
        for place in ["pail", "deep"]:
            told = bound(WELL, place)
            self.wrong(told, place)
            self.assertEqual(told, bound(WELL, place))


class CountsWithNone(unittest.TestCase):

    def test_whatever_is_asked_for_is_come_to(self):
        """A wide heap's counts hold just so: some row leads to them with more than asked for at the others."""
        for net in [WELL, MILL]:
            for wide in widest(net):
                row = covered(net, tuple([9 if count is None else count for count in wide]))[1]
                heap = start_heap(net)
                for name in row:
                    self.assertIn(name, can(net, heap))
                    heap = fired(net, heap, name)
                self.assertTrue(all(count is None or count == has for count, has in zip(wide, heap)))


if __name__ == "__main__":
    unittest.main()
