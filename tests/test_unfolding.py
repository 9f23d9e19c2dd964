import copy
import random
import unittest

import slowly
from samples import DOOR, MILL, NO_NETS, is_deeply_fresh, machines, net_by_chance, ring
from tokenfold.errors import NoEvents, NoNet, NotPlain, TooGreat
from tokenfold.firing import gone, start_heap
from tokenfold.reach import reach
from tokenfold.texts import read_net
from tokenfold.unfolding import MOST_EVENTS, heap_of, plain_row, row_of, unfold

# Two who do something side by side, or one of them alone does both; then all begins anew.
SIDES = read_net(["place a 1", "place b 1", "place c 0", "place d 0", "fire both : a + b -> c + d", "fire one : a -> c",
                  "fire two : b -> d", "fire anew : c + d -> a + b"])
# What SIDES unfolds to.
SIDES_CONDITIONS = [("a", None), ("b", None), ("c", 0), ("d", 0), ("c", 1), ("d", 2), ("a", 3), ("b", 3), ("a", 4), ("b", 4)]
SIDES_EVENTS = [("both", (0, 1), (2, 3), False), ("one", (0,), (4,), False), ("two", (1,), (5,), False),
                ("anew", (2, 3), (6, 7), True), ("anew", (4, 5), (8, 9), True)]
# A net whose heaps come to 2 by a row of two and by a shorter one.
TWO = read_net(["place a 1", "place b 0", "place c 0", "fire t : a -> b + c", "fire u : c -> b", "fire v : b -> c"])


def great(ask):
    try:
        ask()
    except TooGreat as error:
        return error.most
    return None


def wrong_of(ask):
    try:
        ask()
    except NoEvents as error:
        return error.wrong
    return None


def single_by_chance(chance):
    """A net whose counts and starts are at most 1 and whose firings take somewhat."""
    net = net_by_chance(chance, 4, 4, 1, 1, 2)
    return (net[0], tuple([(name, label, takes or ((net[0][0][0], 1),), gives) for name, label, takes, gives in net[1]]))


class PlainRow(unittest.TestCase):

    def test_plain(self):
        for net in [DOOR, SIDES, ((("a", 0),), ()), ((("a", 1),), ()), ring(4, 1), ((("a", 1),), (("t", "", (("a", 1),), ()),))]:
            self.assertIsNone(plain_row(net))
        self.assertIsNone(plain_row(net=DOOR, most=3))

    def test_by_counts(self):
        places = (("a", 1), ("b", 0))
        for takes, gives in [((("a", 2),), ()), ((("b", 2),), ()), ((("a", 1),), (("b", 2),)), ((), ()), ((), (("b", 1),))]:
            self.assertEqual(plain_row((places, (("t", "", takes, gives),))), [])
            self.assertEqual(plain_row((places, (("u", "", (("a", 1),), ()), ("t", "", takes, gives)))), [])
        self.assertEqual(plain_row(((("a", 1), ("b", 2)), ())), [])
        self.assertEqual(plain_row(MILL), [])

    def test_the_row_to_a_heap_with_two(self):
        self.assertEqual(plain_row(TWO), ["t", "u"])
        exchanged = (TWO[0], (TWO[1][2], TWO[1][0], TWO[1][1]))
        self.assertEqual(plain_row(exchanged), ["t", "v"])
        self.assertEqual(plain_row(((("a", 1), ("b", 1)), (("t", "", (("a", 1),), (("b", 1),)),))), ["t"])

    def test_against_all_heaps(self):
        chance = random.Random(50)
        rows = 0
        for _ in range(300):
            net = single_by_chance(chance)
            row = plain_row(net)
            shortest = None
            level = [[]]
            while shortest is None and len(level[0]) < 4:
                twos = [names for names in level if max(gone(net, start_heap(net), names)) > 1]
                shortest = twos[0] if twos else None
                level = [[*names, firing[0]] for names in level for firing in net[1]
                         if all(gone(net, start_heap(net), names)[[name for name, _ in net[0]].index(place)] >= count
                                for place, count in firing[2])] or [[None] * 4]
            if shortest is not None:
                rows += 1
                self.assertEqual(row, shortest)
            elif row is not None:
                self.assertGreater(len(row), 3)
        self.assertGreater(rows, 50)

    def test_too_great(self):
        chain = read_net(["place a 1", "place b 0", "place c 0", "place d 1", "fire t : a -> b", "fire u : b -> c",
                          "fire v : c -> d"])
        # The heap with 2 is the fourth; behind it nothing is looked at.
        self.assertEqual([great(lambda: plain_row(chain, most=most)) for most in range(6)], [0, 1, 2, 3, None, None])
        self.assertEqual(plain_row(chain, most=4), ["t", "u", "v"])
        self.assertEqual([great(lambda: plain_row(DOOR, most=most)) for most in range(5)], [0, 1, 2, None, None])
        more = (chain[0], chain[1] + (("w", "", (("c", 1), ("d", 1)), (("a", 1),)),))
        self.assertEqual([great(lambda: plain_row(more, most=most)) for most in range(6)], [0, 1, 2, 3, None, None])
        self.assertEqual(plain_row(more, most=4), ["t", "u", "v"])
        self.assertGreater(len(reach(more)[0]), 4)
        # Where counts bar it, no heap is looked at.
        self.assertEqual(plain_row(MILL, most=0), [])

    def test_refused(self):
        for thing, wrong in NO_NETS:
            for ask in [plain_row, unfold, lambda net: heap_of(net, None, None), lambda net: row_of(net, None, None)]:
                with self.assertRaises(NoNet) as caught:
                    ask(thing)
                self.assertEqual(caught.exception.wrong, wrong)

    def test_told_lists_are_new(self):
        for net in [TWO, MILL]:
            self.assertTrue(is_deeply_fresh(lambda: plain_row(net)))


class Unfold(unittest.TestCase):

    def test_conditions_and_events(self):
        self.assertEqual(unfold(SIDES), (SIDES_CONDITIONS, SIDES_EVENTS))
        conditions, events = unfold(net=DOOR, most=400)
        self.assertEqual(conditions, [("idle", None), ("key", None), ("room", 0), ("lost", 1), ("idle", 2), ("key", 2)])
        self.assertEqual(events, [("enter", (0, 1), (2,), False), ("lose", (1,), (3,), False), ("leave", (2,), (4, 5), True)])
        self.assertEqual(unfold(((("a", 1), ("b", 0), ("c", 1)), ())), ([("a", None), ("c", None)], []))

    def test_takes_and_gives_in_the_places_order(self):
        net = ((("z", 0), ("a", 1), ("m", 1)), (("t", "", (("a", 1), ("m", 1)), (("z", 1), ("m", 1))),))
        self.assertEqual(unfold(net), ([("a", None), ("m", None), ("z", 0), ("m", 0)], [("t", (0, 1), (2, 3), False)]))

    def test_cut_by_the_start(self):
        net = ((("a", 1), ("b", 0)), (("t", "", (("a", 1),), (("b", 1),)), ("u", "", (("b", 1),), (("a", 1),))))
        self.assertEqual(unfold(net)[1], [("t", (0,), (1,), False), ("u", (1,), (2,), True)])
        loop = ((("a", 1),), (("t", "", (("a", 1),), (("a", 1),)),))
        self.assertEqual(unfold(loop), ([("a", None), ("a", 0)], [("t", (0,), (1,), True)]))

    def test_cut_by_an_event_ahead(self):
        net = read_net(["place a 1", "place b 0", "place c 0", "fire t : a -> b", "fire u : a -> b", "fire v : b -> c"])
        told = [("t", (0,), (1,), False), ("u", (0,), (2,), True), ("v", (1,), (3,), False)]
        self.assertEqual(unfold(net)[1], told)

    def test_cut_by_a_cut_event(self):
        net = read_net(["place a 1", "place b 0", "place c 0", "fire t : a -> b", "fire u : a -> b", "fire w : a -> b"])
        self.assertEqual([event[3] for event in unfold(net)[1]], [False, True, True])
        # What is cut by the start has the start's heap: so one more of that heap is cut, whichever of both is asked.
        loop = read_net(["place a 1", "fire t : a -> a", "fire u : a -> a"])
        self.assertEqual(unfold(loop)[1], [("t", (0,), (1,), True), ("u", (0,), (2,), True)])

    def test_by_how_many_events(self):
        net = read_net(["place a 1", "place b 1", "place c 0", "place d 0", "fire last : c -> 0", "fire t : a -> c",
                        "fire u : b -> d"])
        self.assertEqual([event[0] for event in unfold(net)[1]], ["t", "u", "last"])

    def test_by_the_firings_numbers(self):
        # Both pasts have two events; that of firings 0 and 3 is first, though firing 2 is ahead of 3.
        net = read_net(["place a 1", "place b 1", "place c 0", "place d 0", "fire p : a -> c", "fire q : b -> d",
                        "fire r : d -> 0", "fire s : c -> 0"])
        self.assertEqual([event[0] for event in unfold(net)[1]], ["p", "q", "s", "r"])

    def test_by_layers(self):
        # Both do what they do once, one behind the other: who does it first parts the two pasts.
        net = read_net(["place a 1", "place key 1", "place b 1", "place c 0", "fire t : a + key -> key",
                        "fire u : key + b -> key + c"])
        self.assertEqual(unfold(net)[1], [("t", (0, 1), (3,), False), ("u", (1, 2), (4, 5), False),
                                          ("u", (3, 2), (6, 7), False), ("t", (0, 4), (8,), True)])

    def test_by_fewer_in_a_layer(self):
        # The fourth and the fifth event have pasts of t, u and v: of the one all are in a row, of the other t is beside u.
        net = read_net(["place c 0", "place d 1", "place e 0", "place b 1", "place f 0", "place key 1",
                        "fire t : d + key -> f + key", "fire u : b -> e", "fire v : e + key -> c + key"])
        told = unfold(net)
        self.assertEqual([event[0] for event in told[1]], ["t", "u", "v", "t", "v"])
        self.assertEqual([event[3] for event in told[1]], [False, False, False, False, True])
        self.assertEqual(slowly.layers_of(told, slowly.past(told, 3)), [[1], [2], [3]])
        self.assertEqual(slowly.layers_of(told, slowly.past(told, 4)), [[0, 1], [4]])

    def test_against_its_words(self):
        chance = random.Random(51)
        compared = 0
        for _ in range(700):
            net = machines(chance) if chance.random() < 0.7 else single_by_chance(chance)
            if plain_row(net) is None and len(unfold(net)[1]) <= 9:
                compared += len(unfold(net)[1]) > 3
                self.assertEqual(unfold(net), slowly.unfolded(net))
        self.assertGreater(compared, 100)

    def test_as_many_uncut_as_heaps_at_most(self):
        chance = random.Random(53)
        for _ in range(100):
            net = machines(chance, many=3, states=3, firings=8)
            self.assertLess(len([event for event in unfold(net)[1] if not event[3]]), len(reach(net)[0]) + 1)

    def test_not_plain(self):
        for net, wrong in [(MILL, []), (TWO, ["t", "u"]), (((("a", 2),), ()), [])]:
            with self.assertRaises(NotPlain) as caught:
                unfold(net)
            self.assertEqual(caught.exception.wrong, wrong)
            with self.assertRaises(NotPlain):
                unfold(net, most=0)

    def test_too_many_heaps_ahead_of_all_else(self):
        # Eleven that are here or there: 2048 heaps; one more firing would bring two to a place.
        places = [(f"p{k}", 1 - k % 2) for k in range(22)]
        fires = [(f"t{k}", "", ((f"p{2 * k}", 1),), ((f"p{2 * k + 1}", 1),)) for k in range(11)]
        self.assertEqual(great(lambda: unfold((tuple(places), tuple(fires)))), 2000)
        self.assertEqual(great(lambda: unfold((tuple(places), tuple(fires)), most=3)), 2000)

    def test_most_events(self):
        self.assertEqual(MOST_EVENTS, 400)
        for net in [DOOR, SIDES]:
            many = len(unfold(net)[1])
            self.assertEqual(unfold(net, most=many), unfold(net))
            for most in range(many):
                self.assertEqual(great(lambda: unfold(net, most=most)), most)
        self.assertEqual(unfold(((("a", 1),), ()), most=0), ([("a", None)], []))
        self.assertEqual(great(lambda: unfold(((("a", 1),), (("t", "", (("a", 1),), ()),)), most=0)), 0)

    def test_four_hundred_events(self):
        def counter(bits):
            names = [(f"z{k}", f"o{k}") for k in range(bits)]
            fires = [(f"t{k}", "", (*[(o, 1) for _, o in names[:k]], (names[k][0], 1)),
                      (*[(z, 1) for z, _ in names[:k]], (names[k][1], 1))) for k in range(bits)]
            return (tuple([place for z, o in names for place in ((z, 1), (o, 0))]), tuple(fires))
        conditions, events = unfold(counter(8))
        self.assertEqual(len(events), 255)
        self.assertEqual(great(lambda: unfold(counter(9))), 400)
        self.assertEqual(len(unfold(counter(9), most=511)[1]), 511)

    def test_told_lists_are_new(self):
        for net in [DOOR, SIDES]:
            self.assertTrue(is_deeply_fresh(lambda: unfold(net)))


class HeapOf(unittest.TestCase):

    SIDES = (SIDES_CONDITIONS, SIDES_EVENTS)

    def test_in_any_order(self):
        self.assertEqual(heap_of(SIDES, self.SIDES, []), (1, 1, 0, 0))
        self.assertEqual(row_of(SIDES, self.SIDES, []), [])
        self.assertEqual(heap_of(SIDES, self.SIDES, [1]), (0, 1, 1, 0))
        self.assertEqual(heap_of(SIDES, self.SIDES, [2, 1]), (0, 0, 1, 1))
        self.assertEqual(row_of(net=SIDES, unfolding=self.SIDES, events=[2, 1]), ["one", "two"])
        # With events that are cut.
        self.assertEqual(heap_of(net=SIDES, unfolding=self.SIDES, events=[4, 2, 1]), (1, 1, 0, 0))
        self.assertEqual(row_of(SIDES, self.SIDES, [4, 2, 1]), ["one", "two", "anew"])

    def test_agrees_with_the_row(self):
        chance = random.Random(54)
        for _ in range(60):
            net = machines(chance)
            told = unfold(net)
            if len(told[1]) > 8:
                continue
            for lot in slowly.configurations(told):
                numbers = sorted(lot)
                chance.shuffle(numbers)
                self.assertEqual(heap_of(net, told, numbers), gone(net, start_heap(net), row_of(net, told, numbers)))

    def test_wrong_events(self):
        for ask in [heap_of, row_of]:
            for k, thing in enumerate([-1, 5, True, False, None, "0", (0,), [0]]):
                self.assertEqual(wrong_of(lambda: ask(SIDES, self.SIDES, [0, thing])), ("event", 1), k)
                self.assertEqual(wrong_of(lambda: ask(SIDES, self.SIDES, [thing, 3])), ("event", 0), k)
            self.assertEqual(wrong_of(lambda: ask(SIDES, self.SIDES, [1, 2, 1])), ("event", 2))
            self.assertEqual(wrong_of(lambda: ask(SIDES, self.SIDES, [3, 0, 0, 5])), ("event", 2))
            # A double is found ahead of a past that lacks, and that ahead of what isn't apart.
            self.assertEqual(wrong_of(lambda: ask(SIDES, self.SIDES, [3, 1, 1])), ("event", 2))
            self.assertEqual(wrong_of(lambda: ask(SIDES, self.SIDES, [0, 1, 4])), ("past", 2))
            self.assertEqual(wrong_of(lambda: ask(SIDES, self.SIDES, [4, 3, 1])), ("past", 0))
            self.assertEqual(wrong_of(lambda: ask(SIDES, self.SIDES, [0, 1])), ("apart", 0, 1))
            self.assertEqual(wrong_of(lambda: ask(SIDES, self.SIDES, [2, 1, 0])), ("apart", 0, 2))
            self.assertEqual(wrong_of(lambda: ask(SIDES, self.SIDES, [1, 2, 0, 3, 4])), ("apart", 0, 2))
            self.assertIsNone(wrong_of(lambda: ask(SIDES, self.SIDES, [4, 2, 1])))

    def test_the_least_two(self):
        three = read_net(["place a 1", "place b 1", "fire t : b -> 0", "fire u : a -> 0", "fire v : a + b -> 0", "fire w : a -> 0"])
        told = unfold(three)
        names = [event[0] for event in told[1]]
        t, u, v, w = [names.index(name) for name in "tuvw"]
        self.assertEqual(wrong_of(lambda: heap_of(three, told, [t, u, v, w])), ("apart", 0, 2))
        self.assertEqual(wrong_of(lambda: heap_of(three, told, [u, t, w, v])), ("apart", 0, 2))
        self.assertEqual(wrong_of(lambda: heap_of(three, told, [t, w, u])), ("apart", 1, 2))

    def test_unfoldings_that_are_not_whole(self):
        # Looked at are makers and takes alone: the gives may be others, what was cut needn't be, events may lack.
        short = (SIDES_CONDITIONS[:6], [(name, takes, (), False) for name, takes, _, _ in SIDES_EVENTS[:3]])
        self.assertEqual(heap_of(SIDES, short, [2, 1]), (0, 0, 1, 1))
        self.assertEqual(row_of(SIDES, short, [2, 1]), ["one", "two"])
        self.assertEqual(wrong_of(lambda: heap_of(SIDES, short, [0, 2])), ("apart", 0, 1))
        self.assertEqual(wrong_of(lambda: heap_of(SIDES, short, [3])), ("event", 0))
        # One that takes what is given behind it.
        turned = ([("a", None), ("b", None), ("d", 0), ("c", 1)], [("two", (1,), (2,), False), ("one", (0,), (3,), False)])
        self.assertEqual(row_of(SIDES, turned, [1, 0]), ["two", "one"])

    def test_what_is_handed_in_stays(self):
        unfolding, numbers = copy.deepcopy(self.SIDES), [4, 2, 1]
        heap_of(SIDES, unfolding, numbers)
        row_of(SIDES, unfolding, numbers)
        self.assertEqual((unfolding, numbers), (self.SIDES, [4, 2, 1]))
        self.assertTrue(is_deeply_fresh(lambda: row_of(SIDES, unfolding, numbers)))


if __name__ == "__main__":
    unittest.main()
