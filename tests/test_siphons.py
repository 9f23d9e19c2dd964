import itertools
import random
import time
import unittest

from samples import DOOR, MILL, NO_NETS, STRANGE, WELL, is_deeply_fresh, is_fresh, net_by_chance
from tokenfold.errors import NoNet, NoPlace, TooGreat
from tokenfold.reach import dead, reach
from tokenfold.siphons import is_siphon, is_trap, siphon_in, siphons, trap_in, trapped, trapped_wrong
from tokenfold.texts import read_net

# z and b, and z and a, are siphons; a's token can be lost.
FORK = read_net(["place z 1", "place b 0", "place a 1", "fire t : z -> b", "fire u : b -> z", "fire v : z -> a",
                 "fire w : a -> z"])
LOST = read_net(["place a 1", "place b 0", "fire go : a -> b", "fire back : b -> a", "fire lose : b -> 0"])
NO_NAMES = ["x", "", "t", None, True, 0, ("a",), ["a"], []]


def holds(net, names, giving, taking):
    """Whether each firing that does the first to one of the places does the second to one, too."""
    return all(any(name in names for name, _ in firing[taking]) for firing in net[1]
               if any(name in names for name, _ in firing[giving]))


def sets_of(names):
    return [list(lot) for many in range(len(names) + 1) for lot in itertools.combinations(names, many)]


def names_of(net):
    return [name for name, _ in net[0]]


def least_siphons(net):
    """All siphons that are looked for, by looking at all sets one by one."""
    names = names_of(net)
    kept = []
    for lot in sets_of(range(len(names))):
        if lot and holds(net, [names[k] for k in lot], 3, 2) and not any(set(other) <= set(lot) for other in kept):
            kept.append(lot)
    return [[names[k] for k in lot] for lot in sorted(kept)]


def drawn(chance, places, firings):
    """A net of just so many places and firings, that take and give here and there."""
    names = [f"p{k}" for k in range(places)]
    fires = []
    for k in range(firings):
        sides = []
        for _ in range(2):
            many = min(places, chance.randrange(4))
            sides.append(tuple([(names[at], 1) for at in sorted(chance.sample(range(places), many))]))
        fires.append((f"t{k}", "", *sides))
    return (tuple([(name, chance.randrange(2)) for name in names]), tuple(fires))


def wide(many):
    """A net of so many places, each its own siphon."""
    return (tuple([(f"p{k}", 1) for k in range(many)]), ())


class IsSiphonAndIsTrap(unittest.TestCase):

    def test_siphons(self):
        for places, told in [(["grain"], False), (["idle", "busy"], True), (["busy"], False), (["flour", "idle", "busy"], True),
                             (["grain", "idle", "busy"], False), (["idle", "busy", "flour", "grain"], False)]:
            self.assertIs(is_siphon(MILL, places), told)
        self.assertIs(is_siphon(places=["a", "b"], net=LOST), True)

    def test_traps(self):
        for places, told in [(["grain"], False), (["idle", "busy"], True), (["flour"], False), (["busy", "flour"], False),
                             (["idle", "busy", "grain"], True)]:
            self.assertIs(is_trap(MILL, places), told)
        self.assertIs(is_trap(places=["a", "b"], net=LOST), False)

    def test_the_empty_set(self):
        for net in [MILL, DOOR, ((("a", 0),), ())]:
            self.assertIs(is_siphon(net, []), True)
            self.assertIs(is_trap(net, []), True)

    def test_in_any_order_and_twice(self):
        self.assertIs(is_siphon(MILL, ["busy", "idle", "busy"]), True)
        self.assertIs(is_trap(MILL, ["busy", "busy", "idle", "idle"]), True)
        self.assertIs(is_siphon(MILL, ["busy", "busy"]), False)

    def test_a_firing_that_only_gives_or_takes(self):
        net = read_net(["place a 0", "place b 0", "fire t : 0 -> a", "fire u : b -> 0"])
        self.assertEqual([is_siphon(net, ["a"]), is_trap(net, ["a"]), is_siphon(net, ["b"]), is_trap(net, ["b"])],
                         [False, True, True, False])

    def test_against_their_words(self):
        chance = random.Random(34)
        for _ in range(60):
            net = net_by_chance(chance)
            for places in sets_of(names_of(net)):
                self.assertEqual(is_siphon(net, places), holds(net, places, 3, 2))
                self.assertEqual(is_trap(net, places), holds(net, places, 2, 3))


class Greatest(unittest.TestCase):

    def test_in_the_places_order(self):
        self.assertEqual(siphon_in(MILL, ["flour", "busy", "idle"]), ["idle", "busy", "flour"])
        self.assertEqual(trap_in(MILL, ["flour", "busy", "idle", "grain", "busy"]), ["grain", "idle", "busy"])
        self.assertEqual(siphon_in(places=["a", "b", "z"], net=FORK), ["z", "b", "a"])

    def test_none(self):
        self.assertEqual(siphon_in(MILL, ["grain", "busy"]), [])
        self.assertEqual(trap_in(LOST, ["b", "a"]), [])
        self.assertEqual(siphon_in(MILL, []), [])
        self.assertEqual(trap_in(MILL, []), [])

    def test_one_place_takes_another_with_it(self):
        net = read_net(["place a 0", "place b 0", "place c 0", "fire t : 0 -> a", "fire u : a -> b", "fire v : b -> c"])
        self.assertEqual(siphon_in(net, ["c", "b", "a"]), [])
        self.assertEqual(trap_in(net, ["c", "b", "a"]), ["a", "b", "c"])

    def test_against_all_sets(self):
        chance = random.Random(35)
        for _ in range(60):
            net = net_by_chance(chance)
            names = names_of(net)
            for places in sets_of(names):
                for ask, giving, taking in [(siphon_in, 3, 2), (trap_in, 2, 3)]:
                    kept = [set(lot) for lot in sets_of(places) if holds(net, lot, giving, taking)]
                    self.assertEqual(ask(net, places[::-1]), [name for name in names if name in set().union(*kept)])

    def test_told_lists_are_new(self):
        self.assertTrue(is_fresh(lambda: siphon_in(MILL, ["idle", "busy"])))
        self.assertTrue(is_fresh(lambda: trap_in(MILL, ["idle", "busy"])))


class Refused(unittest.TestCase):

    def test_places(self):
        for ask in [is_siphon, is_trap, siphon_in, trap_in]:
            for thing, wrong in NO_NETS:
                with self.assertRaises(NoNet) as caught:
                    ask(thing, ["x"])
                self.assertEqual(caught.exception.wrong, wrong)
            for name in NO_NAMES:
                for places in [[name], ["a", "b", name, "y"], [name, "zz"]]:
                    with self.assertRaises(NoPlace) as caught:
                        ask(FORK, places)
                    self.assertEqual(caught.exception.place, name)

    def test_what_is_handed_in_stays(self):
        places = ["a", "z", "a"]
        for ask in [is_siphon, is_trap, siphon_in, trap_in]:
            ask(FORK, places)
            self.assertEqual(places, ["a", "z", "a"])

    def test_twelve_places_and_thirteen(self):
        self.assertEqual(siphons(wide(12)), [[f"p{k}"] for k in range(12)])
        self.assertEqual(trapped(wide(12)), ("holds", [([f"p{k}"], [f"p{k}"]) for k in range(12)]))
        self.assertIsNone(trapped_wrong(wide(12), trapped(wide(12))))
        for ask in [siphons, trapped, lambda net: trapped_wrong(net, None)]:
            with self.assertRaises(TooGreat) as caught:
                ask(wide(13))
            self.assertEqual(caught.exception.most, 12)
            for thing, wrong in NO_NETS:
                with self.assertRaises(NoNet) as caught:
                    ask(thing)
                self.assertEqual(caught.exception.wrong, wrong)


class Siphons(unittest.TestCase):

    def test_sorted_by_the_places_numbers(self):
        net = read_net(["place z 1", "place y 1", "place b 0", "place a 1", "fire t : y -> a", "fire u : a -> y"])
        self.assertEqual(siphons(net), [["z"], ["y", "a"], ["b"]])
        net = read_net(["place z 1", "place y 0", "place b 0", "place a 1", "fire t : z -> b", "fire u : b -> y + a",
                        "fire v : y + a -> z"])
        self.assertEqual(siphons(net), [["z", "y", "b"], ["z", "b", "a"]])

    def test_none_that_has_another_one_in_it(self):
        self.assertEqual(siphons(net=MILL), [["idle", "busy"]])
        self.assertEqual(siphons(DOOR), [["idle", "room"], ["key", "room"]])

    def test_a_net_without_any(self):
        net = read_net(["place a 0", "place b 0", "fire t : 0 -> a", "fire u : a -> b"])
        self.assertEqual(siphons(net), [])
        self.assertEqual(trapped(net), ("holds", []))
        self.assertIsNone(trapped_wrong(net, ("holds", [])))

    def test_against_all_sets(self):
        chance = random.Random(36)
        for _ in range(80):
            net = net_by_chance(chance, places=5, firings=6)
            names = names_of(net)
            kept = [set(lot) for lot in sets_of(names) if lot and holds(net, lot, 3, 2)]
            least = [lot for lot in kept if not any(other < lot for other in kept)]
            numbers = sorted([[k for k, name in enumerate(names) if name in lot] for lot in least])
            self.assertEqual(siphons(net), [[names[k] for k in lot] for lot in numbers])

    def test_against_all_sets_of_up_to_seven_places(self):
        chance = random.Random(7)
        for many in list(range(1, 8)) * 8:
            net = drawn(chance, many, chance.randrange(0, 9))
            self.assertEqual(siphons(net), least_siphons(net))

    def test_against_all_sets_of_eleven_and_twelve_places(self):
        chance = random.Random(12)
        for many, firings in [(11, 4), (11, 9), (12, 3), (12, 8), (12, 12)]:
            net = drawn(chance, many, firings)
            self.assertEqual(siphons(net), least_siphons(net))
            self.assertIsNone(trapped_wrong(net, trapped(net)))

    def test_the_ring_of_twelve(self):
        names = [f"p{k}" for k in range(12)]
        for at in range(12):
            fires = [(f"t{k}", "", ((names[k], 1),), ((names[(k + 1) % 12], 1),)) for k in range(12)]
            net = (tuple([(name, int(k == at)) for k, name in enumerate(names)]), tuple(fires))
            self.assertEqual(siphons(net), [names])
            self.assertEqual(trapped(net), ("holds", [(names, names)]))
            self.assertIsNone(trapped_wrong(net, ("holds", [(names, names)])))

    def test_twelve_places_at_once(self):
        # Six rings of two places.
        fires = [(f"t{k}", "", ((f"p{k}", 1),), ((f"p{k + 6}", 1),)) for k in range(6)]
        fires += [(f"u{k}", "", ((f"p{k + 6}", 1),), ((f"p{k}", 1),)) for k in range(6)]
        net = (tuple([(f"p{k}", 1) for k in range(12)]), tuple(fires))
        told = trapped(net)
        for ask in [siphons, trapped, lambda net: trapped_wrong(net, told)]:
            begin = time.perf_counter()
            for _ in range(100):
                ask(net)
            self.assertLess(time.perf_counter() - begin, 0.3)

    def test_told_lists_are_new(self):
        for net in [DOOR, LOST, wide(3)]:
            self.assertTrue(is_deeply_fresh(lambda: siphons(net)))
            self.assertTrue(is_deeply_fresh(lambda: trapped(net)))


class Trapped(unittest.TestCase):

    def test_holds(self):
        self.assertEqual(trapped(net=MILL), ("holds", [(["idle", "busy"], ["idle", "busy"])]))
        net = read_net(["place a 1", "place b 1", "place c 1", "fire t : a -> b", "fire u : b -> a + c", "fire v : a -> 0"])
        self.assertEqual(siphons(net), [["a", "b"]])

    def test_the_greatest_trap_within(self):
        net = read_net(["place a 1", "place b 1", "place c 0", "fire t : a -> c", "fire u : c -> b", "fire v : b -> a",
                        "fire w : a + b -> a + b"])
        self.assertEqual(trapped(net), ("holds", [(["a", "b", "c"], ["a", "b", "c"])]))

    def test_lacks(self):
        self.assertEqual(trapped(LOST), ("lacks", ["a", "b"]))
        self.assertEqual(trapped(DOOR), ("lacks", ["key", "room"]))

    def test_the_first_that_lacks(self):
        net = read_net(["place z 0", "place a 0", "place b 1"])
        self.assertEqual(trapped(net), ("lacks", ["z"]))
        net = read_net(["place z 1", "place a 0", "place b 0"])
        self.assertEqual(trapped(net), ("lacks", ["a"]))

    def test_a_trap_without_a_token(self):
        net = read_net(["place a 0", "place b 0", "fire t : a -> b", "fire u : b -> a"])
        self.assertEqual(trapped(net), ("lacks", ["a", "b"]))
        self.assertIsNone(trapped_wrong(net, ("lacks", ["a", "b"])))

    def test_no_heap_is_dead_where_it_holds(self):
        chance = random.Random(37)
        held = 0
        for _ in range(1000):
            names = ["a", "b", "c", "d"]
            fires = []
            for k in range(5):
                many = chance.randrange(1, 3)
                takes, gives = [tuple([(name, 1) for name in sorted(chance.sample(names, many))]) for _ in range(2)]
                fires.append((f"t{k}", "", takes, gives))
            net = (tuple([(name, chance.randrange(2)) for name in names]), tuple(fires))
            if trapped(net)[0] == "holds":
                held += len(reach(net)[0]) > 1
                self.assertEqual(dead(net), [], net)
        self.assertGreater(held, 10)

    def test_papers_told_are_right(self):
        chance = random.Random(38)
        words = []
        for _ in range(150):
            net = net_by_chance(chance, places=5, firings=5, start=1)
            told = trapped(net)
            words.append(told[0])
            self.assertIsNone(trapped_wrong(net, told))
        self.assertGreater(min(words.count("holds"), words.count("lacks")), 10)


class Judge(unittest.TestCase):

    # Two siphons, of the second the trap is a part.
    NET = read_net(["place z 1", "place y 0", "place b 1", "place a 1", "fire t : y -> b", "fire u : b -> y + b",
                    "fire v : z -> z"])
    RIGHT = [(["z"], ["z"]), (["y", "b"], ["y", "b"]), (["a"], ["a"])]

    def wrong(self, thing):
        return trapped_wrong(self.NET, thing)

    def test_the_net(self):
        self.assertEqual(trapped(self.NET), ("holds", self.RIGHT))
        self.assertIsNone(self.wrong(("holds", self.RIGHT)))

    def test_no_papers(self):
        things = STRANGE + [("holds",), ("holds", self.RIGHT, 0), ["holds", self.RIGHT], ("holds", tuple(self.RIGHT)),
                            ("holds", [list(row) for row in self.RIGHT]), ("holds", None), ("holds", ["z"]),
                            ("holds", [(["z"],)]), ("holds", [(["z"], ["z"], ["z"])]), ("holds", [(("z",), ["z"])]),
                            ("holds", [(["z"], ("z",))]), ("holds", [(["z"], ["x"])]), ("holds", [(["t"], ["z"])]),
                            ("holds", [(["z"], [None])]), ("holds", [(["z"], "z")]), ("holds", self.RIGHT + [None]),
                            ("holds", [(["z"], [["z"]])]), ("lacks",), ("lacks", None), ("lacks", "z"), ("lacks", ("z",)),
                            ("lacks", ["x"]), ("lacks", ["z", None]), ("lacks", ["z"], 1), ["lacks", ["z"]], ("lacks", [0]),
                            ("lacks", [["z"]])]
        for thing in things:
            with self.subTest(thing):
                self.assertEqual(self.wrong(thing), ("paper",))

    def test_siphon(self):
        for rows, k in [([], 0), (self.RIGHT[:1], 1), (self.RIGHT[:2], 2), (self.RIGHT + self.RIGHT[:1], 3),
                        (self.RIGHT[1:], 0), ([self.RIGHT[0], (["b", "y"], ["b"]), self.RIGHT[2]], 1),
                        ([self.RIGHT[0], self.RIGHT[2], self.RIGHT[1]], 1), ([(["z", "z"], ["z"])] + self.RIGHT[1:], 0),
                        ([([], [])] + self.RIGHT, 0), (self.RIGHT[:2] + [(["b"], ["b"])], 2),
                        ([self.RIGHT[0], (["b"], ["b"]), self.RIGHT[2]], 1)]:
            with self.subTest(rows):
                self.assertEqual(self.wrong(("holds", rows)), ("siphon", k))

    def test_siphon_ahead_of_any_trap(self):
        self.assertEqual(self.wrong(("holds", [(["z"], []), (["y", "b"], []), (["b"], ["b"])])), ("siphon", 2))
        self.assertEqual(self.wrong(("holds", [(["z"], ["b"]), (["y", "b"], [])])), ("siphon", 2))

    def test_the_same_list(self):
        self.assertEqual(trapped_wrong(FORK, ("holds", [(["z", "b", "a"], ["z"])])), ("trap", 0))
        self.assertEqual(trapped_wrong(FORK, ("holds", [(["z", "a", "b"], ["z", "b", "a"])])), ("siphon", 0))

    def test_trap(self):
        for trap in [[], ["y"], ["z"], ["a"], ["z", "y", "b"], ["b", "a"]]:
            with self.subTest(trap):
                self.assertEqual(self.wrong(("holds", [self.RIGHT[0], (["y", "b"], trap), self.RIGHT[2]])), ("trap", 1))
        self.assertEqual(self.wrong(("holds", [self.RIGHT[0], self.RIGHT[1], (["a"], ["b"])])), ("trap", 2))
        self.assertEqual(self.wrong(("holds", [(["z"], []), self.RIGHT[1], (["a"], [])])), ("trap", 0))

    def test_no_trap_or_no_token(self):
        self.assertEqual(trapped_wrong(LOST, ("holds", [(["a", "b"], ["a"])])), ("trap", 0))
        self.assertEqual(trapped_wrong(LOST, ("holds", [(["a", "b"], ["a", "b"])])), ("trap", 0))
        net = read_net(["place a 0", "place b 0", "fire t : a -> b", "fire u : b -> a"])
        self.assertEqual(trapped_wrong(net, ("holds", [(["a", "b"], ["a", "b"])])), ("trap", 0))

    def test_a_lesser_trap(self):
        self.assertIsNone(self.wrong(("holds", [self.RIGHT[0], (["y", "b"], ["b"]), self.RIGHT[2]])))

    def test_in_any_order_and_twice(self):
        self.assertIsNone(trapped_wrong(FORK, ("holds", [(["z", "b", "a"], ["a", "z", "b", "a"])])))
        self.assertIsNone(trapped_wrong(MILL, ("holds", [(["idle", "busy"], ["busy", "idle", "busy"])])))

    def test_lacks(self):
        self.assertIsNone(trapped_wrong(DOOR, ("lacks", ["key", "room"])))
        for places in [["idle", "room"], ["room", "key"], ["key"], [], ["key", "room", "room"], ["idle", "key", "room"],
                       ["lost"]]:
            with self.subTest(places):
                self.assertEqual(trapped_wrong(DOOR, ("lacks", places)), ("lacks",))
        self.assertEqual(self.wrong(("lacks", ["z"])), ("lacks",))

    def test_not_only_the_first_that_lacks(self):
        net = read_net(["place a 0", "place b 0"])
        self.assertIsNone(trapped_wrong(net, ("lacks", ["b"])))

    def test_what_is_handed_in_stays(self):
        rows = [(["z"], ["z"]), (["y", "b"], ["y", "b"]), (["a"], ["a"])]
        self.wrong(("holds", rows))
        self.assertEqual(rows, self.RIGHT)


if __name__ == "__main__":
    unittest.main()
