import copy
import itertools
import random
import unittest

from samples import DOOR, STRANGE, is_deeply_fresh, net_by_chance, ring
from test_tables import DOOR_TABLE, ONE, SQUARE, named_anew, table_by_chance
from tokenfold.errors import NoTable, TooGreat
from tokenfold.nets import net_wrong
from tokenfold.regions import made_net, made_net_wrong, region_wrong
from tokenfold.tables import rings, roads, same, table_of, table_wrong

# Two stands, in a ring of two names.
RING = (("a", "b"), 2, ((0, "a", 1), (1, "b", 0)))
RING_REGIONS = [((1, 0), ((1, 0), (0, 1))), ((0, 1), ((0, 1), (1, 0)))]
RING_NET = ((("a", 1), ("b", 0)), (("a", "a", (("a", 1),), (("b", 1),)), ("b", "b", (("b", 1),), (("a", 1),))))
# Stand 1 is what 2 is: a leads there from both.
JOINED = (("a", "b"), 3, ((0, "a", 1), (0, "b", 2), (1, "b", 2)))
# Where a leads ahead of all b, and behind all, it must lead between them, too.
LINE = (("b", "a"), 7, ((0, "b", 1), (0, "a", 5), (1, "b", 2), (2, "b", 3), (3, "b", 4), (4, "a", 6)))


def counts_of(table):
    return [[road.count(name) for name in table[0]] for road in roads(table)]


def with_less_arcs(chance, table):
    """The table without one or two of its arcs, if it is one still."""
    for _ in range(chance.randrange(1, 4)):
        arcs = list(table[2])
        if arcs:
            del arcs[chance.randrange(len(arcs))]
        if table_wrong((*table[:2], tuple(arcs))) is None:
            table = (*table[:2], tuple(arcs))
    return table


def drawn_tables(seed, many, stands=7):
    """Tables of nets of few heaps, some of them with less arcs, and others by chance."""
    chance = random.Random(seed)
    found = []
    while len(found) < many:
        if chance.random() < 0.04:
            found.append(table_by_chance(chance, 5, 3))
            continue
        try:
            table = table_of(net_by_chance(chance, 5, 6, 3, 2, 2), most=stands)
        except TooGreat:
            continue
        if table[1] > 3:
            found.append(table if chance.random() < 0.1 else with_less_arcs(chance, table))
    return found


def changes(table, greatest):
    """All changes by names, up to so great, that all rings leave as it was."""
    told = [ring for ring in rings(table) if any(ring)]
    return [change for change in itertools.product(range(-greatest, greatest + 1), repeat=len(table[0]))
            if all(sum(c * r for c, r in zip(change, ring)) == 0 for ring in told)]


def stands_with(table, name):
    return [stand for stand, own, _ in table[2] if own == name]


class RegionWrong(unittest.TestCase):

    def test_regions(self):
        for region in RING_REGIONS + [((0, 0), ((0, 0), (0, 0))), ((5, 3), ((3, 1), (1, 3))), ((1, 1), ((1, 1), (0, 0)))]:
            self.assertIsNone(region_wrong(table=RING, region=region), region)
        self.assertIsNone(region_wrong(ONE, ((7,), ())))
        self.assertIsNone(region_wrong((("x",), 1, ()), ((7,), ((9, 10 ** 12),))))

    def test_form(self):
        worths, moves = RING_REGIONS[0]
        for thing in STRANGE + [(worths,), (worths, moves, moves), [worths, moves], (list(worths), moves), (worths, list(moves)),
                                ((1,), moves), ((1, 0, 0), moves), ((1, -1), moves), ((True, 0), moves), ((1, None), moves),
                                (("1", 0), moves), (worths, moves[:1]), (worths, moves + ((0, 0),)), (worths, ((1, 0), (0,))),
                                (worths, ((1, 0), [0, 1])), (worths, ((1, 0), (0, 1, 0))), (worths, ((1, 0), (-1, 0))),
                                (worths, ((1, 0), (False, 1))), (worths, ((1, 0), (0, None))), (worths, ((1, 0), None)),
                                (moves, worths), (None, moves), (worths, None)]:
            self.assertEqual(region_wrong(RING, thing), ("form",), thing)

    def test_arc(self):
        for region, k in [(((0, 1), ((1, 2), (1, 0))), 0), (((1, 0), ((1, 1), (0, 1))), 0), (((1, 0), ((1, 0), (0, 0))), 1),
                          (((1, 0), ((1, 0), (1, 2))), 1), (((1, 1), ((1, 0), (1, 0))), 0), (((2, 0), ((1, 0), (0, 1))), 0),
                          (((0, 0), ((0, 0), (1, 1))), 1)]:
            self.assertEqual(region_wrong(RING, region), ("arc", k), region)

    def test_no_table(self):
        for thing, wrong in [(None, ("form",)), ((("a",), 1, ((0, "b", 0),)), ("arc", 0)), (((), 2, ()), ("stand", 1))]:
            for ask in [lambda table: region_wrong(table, None), made_net, lambda table: made_net_wrong(table, None)]:
                with self.assertRaises(NoTable) as caught:
                    ask(thing)
                self.assertEqual(caught.exception.wrong, wrong)


class MadeNet(unittest.TestCase):

    def made(self, table):
        """The net, where there is one, when it was seen that all is as told."""
        word, net, regions = made_net(table)
        self.assertEqual(word, "net")
        self.assertIsNone(net_wrong(net))
        self.assertGreater(len(regions), 0)
        self.assertEqual(len(set(regions)), len(regions))
        self.assertEqual(net[0], tuple([("abcdefghijklmnopqrstuvwxyz"[k], region[0][0]) for k, region in enumerate(regions)]))
        for k, (name, label, takes, gives) in enumerate(net[1]):
            self.assertEqual((name, label), (table[0][k], table[0][k]))
            for side, parts in enumerate((takes, gives)):
                self.assertEqual(parts, tuple([(net[0][at][0], region[1][k][side]) for at, region in enumerate(regions)
                                               if region[1][k][side] > 0]))
        for region in regions:
            self.assertIsNone(region_wrong(table, region))
        self.assertIsNone(same(table_of(net), table))
        self.assertIsNone(made_net_wrong(table, (word, net, regions)))
        return net

    def test_of_tables_of_nets(self):
        for net in [DOOR, ring(2, 1), ring(3, 2), ring(4, 1), ((("a", 3),), (("t", "", (("a", 1),), ()),))]:
            self.made(table_of(net))

    def test_of_one_stand(self):
        self.assertEqual(len(self.made(ONE)[0]), 1)
        self.made((("x",), 1, ()))
        self.made((("x", "y"), 1, ((0, "y", 0),)))
        self.made((("x", "y"), 1, ((0, "x", 0), (0, "y", 0))))

    def test_of_a_ring_of_two(self):
        self.made(RING)
        self.assertIsNone(made_net_wrong(RING, ("net", RING_NET, RING_REGIONS)))

    def test_names_that_no_arc_has(self):
        self.made((("x", *RING[0], "y"), *RING[1:]))
        self.made((("x", "a"), 2, ((0, "a", 1),)))

    def test_names_in_another_order(self):
        self.made(SQUARE)
        self.made(named_anew(SQUARE, ["a", "b"]))

    def test_many_places(self):
        # Each of seven may do its own once: of each there is a place.
        net = (tuple([(f"p{k}", 1) for k in range(5)]), tuple([(f"t{k}", "", ((f"p{k}", 1),), ()) for k in range(5)]))
        self.assertEqual(len(self.made(table_of(net))[0]), 5)

    def test_stands(self):
        word, one, other, times, weights = made_net(JOINED)
        self.assertEqual((word, one, other), ("stands", 0, 1))
        self.assertIsNone(made_net_wrong(JOINED, (word, one, other, times, weights)))
        # What is a by one way, and a twice by the other.
        twice = (("a",), 2, ((0, "a", 1), (1, "a", 1)))
        self.assertEqual(made_net(twice)[:3], ("stands", 0, 1))
        # The first by s, then by t.
        table = (("a", "b", "c"), 5, ((0, "c", 4), (4, "a", 1), (4, "b", 2), (1, "c", 3), (2, "c", 3), (3, "b", 1)))
        table = (table[0], table[1], tuple(sorted(table[2], key=lambda arc: (arc[0], table[0].index(arc[1])))))
        told = made_net(table)
        self.assertEqual(told[:3], self.first_alike(table))
        self.assertIsNone(made_net_wrong(table, told))

    def first_alike(self, table):
        """The first two stands that no change by small numbers tells apart, as the first thing that bars it."""
        counts = counts_of(table)
        small = changes(table, 3)
        for one, other in itertools.combinations(range(table[1]), 2):
            if all(sum(c * (a - b) for c, a, b in zip(change, counts[one], counts[other])) == 0 for change in small):
                return ("stands", one, other)
        return None

    def test_arcs(self):
        told = made_net(LINE)
        self.assertEqual(told[:3], ("arc", 1, "a"))
        self.assertEqual(self.first_bar(LINE), told[:3])
        self.assertIsNone(made_net_wrong(LINE, told))
        # Of both, b then a is barred only where there is a stand behind a and b that isn't.
        self.made((("a", "b"), 4, ((0, "a", 1), (0, "b", 2), (2, "a", 3))))
        self.made((("a", "b"), 4, ((0, "a", 1), (0, "b", 2), (1, "b", 3), (2, "a", 3))))
        self.made((("a", "b"), 4, ((0, "a", 1), (1, "b", 2), (2, "a", 3))))
        # With a ring: x leads back, so what is barred is so by rings' weights, too.
        table = (("b", "a", "x"), 5, ((0, "b", 1), (0, "a", 3), (1, "b", 2), (2, "a", 4), (2, "x", 0), (4, "x", 3)))
        told = made_net(table)
        self.assertEqual(told[:3], ("arc", 1, "a"))
        self.assertEqual(self.first_bar(table), told[:3])
        self.assertIsNone(made_net_wrong(table, told))

    def first_bar(self, table):
        """The first of what no change by small numbers tells apart, in the order told; None where there is none."""
        alike = self.first_alike(table)
        if alike is not None:
            return alike
        counts = counts_of(table)
        small = changes(table, 4)
        for stand in range(table[1]):
            for name in table[0]:
                stands = stands_with(table, name)
                if stand in stands or not stands:
                    continue
                if not any(all(sum(c * (a - b) for c, a, b in zip(change, counts[other], counts[stand])) > 0 for other in stands)
                           for change in small):
                    return ("arc", stand, name)
        return None

    def test_against_all_small_changes(self):
        kinds = dict.fromkeys(["net", "stands", "arc"], 0)
        seen = 0
        for table in drawn_tables(72, 600, 9):
            told = made_net(table)
            kinds[told[0]] += 1
            self.assertIsNone(made_net_wrong(table, told))
            if told[0] == "net":
                self.made(table)
            elif len(table[0]) < 5:
                # Where it goes through few names it can be seen that what is told is the first.
                seen += 1
                self.assertEqual(told[:3], self.first_bar(table))
        self.assertGreater(seen, 40)
        for kind, many in kinds.items():
            self.assertGreater(many, 20, kind)

    def test_the_same_name_barred_twice(self):
        # a is barred nowhere between 0 and 4; it lacks at 1, 2 and 3.
        told = made_net(LINE)
        self.assertEqual(told[:3], ("arc", 1, "a"))
        # Where both lead to one stand, that is told ahead of it.
        joined = (("b", "a"), 6, (*LINE[2][:-1], (4, "a", 5)))
        self.assertEqual(made_net(joined)[:3], ("stands", 0, 1))

    def test_both_sorts(self):
        # At 1 a lacks, and 5 and 6 are alike: that is told first.
        line = (("b", "a"), 7, ((0, "b", 1), (0, "a", 5), (1, "b", 2), (2, "a", 6), (5, "b", 3), (6, "a", 4)))
        self.assertEqual(made_net(line)[:3], ("arc", 1, "a"))
        closed = (("b", "a"), 5, ((0, "b", 1), (0, "a", 3), (1, "b", 2), (2, "a", 4), (3, "b", 3)))
        told = made_net(closed)
        self.assertEqual(told[:3], ("stands", 0, 1))
        self.assertIsNone(made_net_wrong(closed, told))

    def test_what_is_told_is_in_whole_numbers(self):
        for table in drawn_tables(73, 60):
            told = made_net(table)
            numbers = [told[3], *told[4]] if told[0] == "stands" else [*told[3], *told[4]] if told[0] == "arc" else []
            self.assertEqual({type(number) for number in numbers} - {int}, set())

    def test_forty_stands(self):
        net = ((("a", 7), ("b", 0), ("c", 2)), (("t", "", (("a", 1),), (("b", 1),)), ("u", "", (("b", 1), ("c", 1)), ()),
                                                ("v", "", (("c", 1),), (("a", 1),))))
        table = table_of(net)
        self.assertGreater(table[1], 20)
        self.assertLessEqual(table[1], 80)
        self.made(table)

    def test_told_lists_are_new(self):
        for table in [RING, JOINED, LINE]:
            self.assertTrue(is_deeply_fresh(lambda: made_net(table)))


class MadeNetWrong(unittest.TestCase):

    def wrong(self, thing, table=RING):
        return made_net_wrong(table=table, thing=thing)

    def test_form(self):
        things = [("net",), ("net", RING_NET), ("net", RING_NET, RING_REGIONS, []), ["net", RING_NET, RING_REGIONS],
                  ("net", None, RING_REGIONS), ("net", ((), ()), RING_REGIONS), ("net", RING_NET, tuple(RING_REGIONS)),
                  ("net", RING_NET, None), ("net", RING_NET, []), ("Net", RING_NET, RING_REGIONS), ("same", 0)]
        for thing in STRANGE + things:
            self.assertEqual(self.wrong(thing), ("form",), thing)

    def test_form_of_stands(self):
        right = ("stands", 0, 1, 1, (0, 0))
        self.assertEqual(self.wrong(right), ("sum",))
        for k, parts in [(1, [-1, 1, 2, None, True, False, "0", (0,)]), (2, [0, 2, -1, None, True, "1"]),
                         (3, [0, -1, None, True, "1", (1,)]),
                         (4, [(), (0,), (0, 0, 0), [0, 0], None, (0, None), (0, True), ("0", 0), 0])]:
            for part in parts:
                thing = (*right[:k], part, *right[k + 1:])
                self.assertEqual(self.wrong(thing), ("form",), thing)
        self.assertEqual(self.wrong(("stands", 1, 0, 1, (0, 0))), ("form",))
        self.assertEqual(self.wrong(right[:4]), ("form",))
        self.assertEqual(self.wrong((*right, ())), ("form",))
        self.assertEqual(self.wrong(list(right)), ("form",))

    def test_form_of_arc(self):
        table = (("a", "x", "b"), 3, ((0, "a", 1), (1, "a", 2), (2, "b", 2)))
        right = ("arc", 2, "a", (1, 1), (0, 0, 0))
        self.assertEqual(self.wrong(right, table), ("sum",))
        for k, parts in [(1, [0, 1, 3, -1, None, True, "2"]), (2, ["b", "x", "", "y", None, 0, ("a",), ["a"]]),
                         (3, [(), (1,), (1, 1, 1), (0, 0), (-1, 1), (1, -1), [1, 1], (True, 1), (1, None), None, 1]),
                         (4, [(), (0, 0), (0, 0, 0, 0), [0, 0, 0], (0, 0, None), (0, 0, True), None])]:
            for part in parts:
                thing = (*right[:k], part, *right[k + 1:])
                self.assertEqual(self.wrong(thing, table), ("form",), thing)
        # Of a name that no arc has shares can't be.
        self.assertEqual(self.wrong(("arc", 0, "x", (), (0, 0, 0)), table), ("form",))
        self.assertEqual(self.wrong(right[:4], table), ("form",))
        self.assertEqual(self.wrong((*right, 0), table), ("form",))

    def test_region(self):
        first, second = RING_REGIONS
        for regions, k in [([first, first], 1), ([first, second, first], 2), ([None, second], 0), ([first, [second]], 1),
                           ([first, ((0, 1), ((0, 1), (1, 1)))], 1), ([first, "region"], 1), ([first, second, first, None], 2),
                           ([((1, 0), [(1, 0), (0, 1)])], 0)]:
            self.assertEqual(self.wrong(("net", RING_NET, regions)), ("region", k))
            self.assertEqual(self.wrong(("net", ring(5, 1), regions)), ("region", k))

    def test_net(self):
        places, firings = RING_NET
        for net in [ring(2, 1), (places[::-1], firings), ((("a", 1), ("c", 0)), ()), (places, firings[::-1]), (places, firings[:1]),
                    ((("a", 2), ("b", 0)), firings), (places + (("c", 0),), firings),
                    (places, (("a", "", *firings[0][2:]), firings[1])), (places, (("a", "b", *firings[0][2:]), firings[1])),
                    (places, (("a", "a", (("a", 2),), (("b", 1),)), firings[1])), (places, (("a", "a", (("a", 1),), ()), firings[1]))]:
            self.assertEqual(self.wrong(("net", net, RING_REGIONS)), ("net",), net)
        self.assertEqual(self.wrong(("net", RING_NET, RING_REGIONS[::-1])), ("net",))
        self.assertEqual(self.wrong(("net", RING_NET, RING_REGIONS[:1])), ("net",))

    def made(self, table, regions):
        """The paper of these regions."""
        places = "abcdefgh"
        firings = tuple([(name, name, *[tuple([(places[at], region[1][k][side]) for at, region in enumerate(regions)
                                               if region[1][k][side]]) for side in range(2)]) for k, name in enumerate(table[0])])
        return ("net", (tuple([(places[at], region[0][0]) for at, region in enumerate(regions)]), firings), regions)

    def test_same(self):
        # Without the region that bars b at 0, or that bars a at 1.
        self.assertEqual(self.wrong(self.made(RING, RING_REGIONS[:1])), ("same", 0))
        self.assertEqual(self.wrong(self.made(RING, RING_REGIONS[1:])), ("same", 1))
        self.assertEqual(self.wrong(self.made(RING, [((1, 0), ((1, 0), (0, 1))), ((1, 1), ((1, 1), (1, 1)))])), ("same", 0))
        self.assertEqual(self.wrong(self.made(RING, [((0, 1), ((0, 1), (1, 0))), ((2, 0), ((0, 0), (0, 0)))])), ("region", 1))
        # 0 is told apart from 1 by what can there, or it isn't.
        loops = (("a", "b"), 3, ((0, "a", 1), (1, "a", 2), (2, "a", 0)))
        zero = ((0, 0, 0), ((0, 0), (1, 0)))
        self.assertEqual(self.wrong(self.made(loops, [zero]), loops), ("same", 0, 1))
        ends = (("a", "b"), 3, ((0, "a", 1), (0, "b", 2)))
        self.assertEqual(self.wrong(self.made(ends, [((1, 0, 0), ((1, 0), (1, 0)))]), ends), ("same", 1, 2))
        line = (("a",), 3, ((0, "a", 1), (1, "a", 2)))
        self.assertIsNone(self.wrong(self.made(line, [((2, 1, 0), ((1, 0),))]), line))
        self.assertEqual(self.wrong(self.made(line, [((3, 2, 1), ((1, 0),))]), line), ("same", 2))
        self.assertEqual(self.wrong(self.made(line, [((1, 1, 1), ((1, 1),))]), line), ("same", 0, 1))
        # Of each stand both, ahead of the next: 0 and 2 are alike, and at 1 a can.
        four = (("a", "b"), 4, ((0, "a", 1), (0, "b", 2), (1, "b", 3), (2, "a", 3)))
        self.assertEqual(self.wrong(self.made(four, [((1, 0, 1, 0), ((1, 0), (0, 0)))]), four), ("same", 0, 2))
        self.assertEqual(self.wrong(self.made(four, [((1, 0, 1, 0), ((1, 0), (0, 0))), ((0, 0, 1, 1), ((0, 0), (0, 1)))]), four), ("same", 2))
        other = (("a", "b"), 4, ((0, "a", 1), (1, "b", 3), (3, "a", 2)))
        self.assertEqual(self.wrong(self.made(other, [((2, 1, 0, 1), ((1, 0), (0, 0))), ((0, 0, 1, 1), ((0, 0), (0, 1)))]), other), ("same", 0))

    def test_sum(self):
        told = made_net(JOINED)
        self.assertEqual(told[0], "stands")
        _, one, other, times, weights = told
        self.assertIsNone(self.wrong(("stands", one, other, 3 * times, tuple([3 * weight for weight in weights])), JOINED))
        for k in range(len(weights)):
            changed = (*weights[:k], weights[k] + 1, *weights[k + 1:])
            is_0 = not any(rings(JOINED)[k])
            self.assertEqual(self.wrong(("stands", one, other, times, changed), JOINED), None if is_0 else ("sum",))
        self.assertEqual(self.wrong(("stands", one, other, times + 1, weights), JOINED), ("sum",))
        self.assertEqual(self.wrong(("stands", one, 2, times, weights), JOINED), ("sum",))

    def test_sum_of_shares(self):
        nothing = (0,) * 6
        for thing in [("arc", 1, "a", (3, 1), nothing), ("arc", 2, "a", (1, 1), nothing), ("arc", 3, "a", (1, 3), nothing),
                      ("arc", 2, "a", (10 ** 30, 10 ** 30), (7, -7, 0, 10 ** 40, 5, 9))]:
            self.assertIsNone(self.wrong(thing, LINE), thing)
        for thing in [("arc", 1, "a", (1, 1), nothing), ("arc", 2, "a", (2, 1), nothing), ("arc", 3, "a", (0, 1), nothing),
                      ("arc", 5, "a", (1, 1), nothing), ("arc", 2, "a", (10 ** 30, 10 ** 30 + 1), nothing)]:
            self.assertEqual(self.wrong(thing, LINE), ("sum",), thing)

    def test_numbers_that_are_not_first_ones(self):
        # A loop by a: all stands that differ by a alone are alike.
        table = (("a", "b"), 4, ((0, "a", 1), (0, "b", 2), (1, "a", 0), (1, "b", 3), (2, "a", 3)))
        self.assertEqual(rings(table), [(0, 0), (0, 0), (2, 0), (0, 0), (0, 0)])
        for one, other in [(0, 1), (2, 3)]:
            wrong = self.wrong(("stands", one, other, 2, (0, 0, -1, 0, 0)), table)
            self.assertEqual(wrong, None)
        self.assertEqual(made_net(table)[:3], ("stands", 0, 1))

    def test_other_regions(self):
        for table in [RING, DOOR_TABLE, SQUARE]:
            word, _, regions = made_net(table)
            more = regions + [((4,) * table[1], tuple([(2, 2) for _ in table[0]]))]
            self.assertIsNone(self.wrong(self.made(table, more), table))
            self.assertIsNone(self.wrong(self.made(table, regions[::-1]), table))
            twice = [(tuple([3 * worth + 1 for worth in worths]), tuple([(3 * taken, 3 * given) for taken, given in moves]))
                     for worths, moves in regions]
            self.assertEqual(self.wrong(self.made(table, twice), table), None if word == "net" else ("same", 0))

    def test_what_is_handed_in_stays(self):
        thing = ("net", RING_NET, list(RING_REGIONS))
        kept = copy.deepcopy(thing)
        self.wrong(thing)
        self.assertEqual(thing, kept)


if __name__ == "__main__":
    unittest.main()
