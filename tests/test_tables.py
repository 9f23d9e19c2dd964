import copy
import itertools
import random
import unittest

from samples import DOOR, NO_NETS, STRANGE, WELL, is_deeply_fresh, net_by_chance, ring
from tokenfold.errors import NoNet, NoTable, TooGreat
from tokenfold.reach import reach
from tokenfold.tables import rings, roads, same, table_of, table_wrong

DOOR_TABLE = (("enter", "leave", "lose"), 3, ((0, "enter", 1), (0, "lose", 2), (1, "leave", 0)))
# Two roads to 3, as short: by b, a and by a, b; the stands aren't numbered as they are come to.
SQUARE = (("b", "a"), 4, ((0, "b", 2), (0, "a", 1), (1, "b", 3), (2, "a", 3)))
ONE = ((), 1, ())


def rows_by_order(names, longest):
    """All rows of up to so many names, by their length, then by the names' order."""
    return [row for many in range(longest + 1) for row in itertools.product(names, repeat=many)]


def stand_behind(table, row):
    """The stand to which the row leads; None where it doesn't."""
    leads = {(stand, name): behind for stand, name, behind in table[2]}
    stand = 0
    for name in row:
        stand = leads.get((stand, name))
        if stand is None:
            return None
    return stand


def same_slowly(one, other, longest):
    """What parts the tables, by going through all rows of up to so many names."""
    names = list(one[0]) + [name for name in other[0] if name not in one[0]]
    ahead = []
    for row in rows_by_order(names, longest):
        ends = (stand_behind(one, row), stand_behind(other, row))
        if (ends[0] is None) != (ends[1] is None):
            return (row,)
        if ends[0] is None:
            continue
        for earlier, (first, second) in ahead:
            if (first == ends[0]) != (second == ends[1]):
                return (earlier, row)
        ahead.append((row, ends))
    return None


def renumbered(table, order):
    """The table with its stands numbered so, and its arcs in order."""
    names, many, arcs = table
    moved = [(order[stand], name, order[behind]) for stand, name, behind in arcs]
    return (names, many, tuple(sorted(moved, key=lambda arc: (arc[0], names.index(arc[1])))))


def named_anew(table, names):
    """The table with its names in another order, perhaps with more of them."""
    arcs = sorted(table[2], key=lambda arc: (arc[0], names.index(arc[1])))
    return (tuple(names), table[1], tuple(arcs))


def table_by_chance(chance, stands=5, names=3):
    """A table of at most so many stands and names."""
    while True:
        many = chance.randrange(1, stands + 1)
        named = tuple(chance.sample("abcdefgh", chance.randrange(1, names + 1)))
        arcs = [(stand, name, chance.randrange(many)) for stand in range(many) for name in named if chance.random() < 0.6]
        if table_wrong((named, many, tuple(arcs))) is None:
            return (named, many, tuple(arcs))


class TableWrong(unittest.TestCase):

    def test_tables(self):
        for table in [DOOR_TABLE, SQUARE, ONE, (("a", "z9"), 1, ()), (("a",), 1, ((0, "a", 0),)),
                      (("a", "b"), 2, ((0, "b", 1), (1, "a", 1), (1, "b", 0)))]:
            self.assertIsNone(table_wrong(thing=table))

    def test_form(self):
        things = [(("a",), 1), (("a",), 1, (), ()), [("a",), 1, ()], (["a"], 1, ()), ("a", 1, ()), (None, 1, ()), (("a", "a"), 1, ()),
                  (("A",), 1, ()), (("",), 1, ()), (("fire",), 1, ()), (("abcdefghi",), 1, ()), ((None,), 1, ()), ((["a"],), 1, ()),
                  ((True,), 1, ()), (("a",), 0, ()), (("a",), -1, ()), (("a",), True, ()), (("a",), None, ()), (("a",), "1", ()),
                  (("a",), 1, []), (("a",), 1, None), (("a",), 1, "")]
        for thing in STRANGE + things:
            self.assertEqual(table_wrong(thing), ("form",), thing)

    def test_arc(self):
        arcs = [None, (), (0, "a"), (0, "a", 1, 1), [0, "a", 1], ("a", 0, 1), (0, "b", 1), (0, "", 1), (0, None, 1), (0, ["a"], 1),
                (0, "a", 3), (0, "a", -1), (-1, "a", 0), (3, "a", 0), (False, "a", 1), (0, "a", True), (0, "a", None), ("0", "a", 1),
                (0, 0, 1), (0, "a", (1,))]
        for arc in arcs:
            self.assertEqual(table_wrong((("a", "x"), 3, (arc,))), ("arc", 0), arc)
            self.assertEqual(table_wrong((("a", "x"), 3, ((0, "x", 1), (0, "x", 1), arc))), ("arc", 1), arc)
            self.assertEqual(table_wrong((("x", "a"), 3, ((0, "x", 1), arc, (0, "a", 1)))), ("arc", 1), arc)

    def test_arcs_in_order(self):
        # By the first stand, then by the names' own order.
        self.assertEqual(table_wrong((("b", "a"), 2, ((0, "a", 1), (0, "b", 1)))), ("arc", 1))
        self.assertEqual(table_wrong((("b", "a"), 2, ((0, "b", 1), (0, "a", 1), (0, "a", 0)))), ("arc", 2))
        self.assertEqual(table_wrong((("b", "a"), 2, ((0, "b", 1), (1, "a", 1), (0, "a", 0)))), ("arc", 2))
        self.assertEqual(table_wrong((("b", "a"), 2, ((0, "b", 1), (1, "b", 1), (1, "b", 1)))), ("arc", 2))
        self.assertIsNone(table_wrong((("b", "a"), 2, ((0, "b", 1), (0, "a", 0), (1, "b", 0)))))

    def test_stand(self):
        self.assertEqual(table_wrong(((), 2, ())), ("stand", 1))
        self.assertEqual(table_wrong((("a",), 3, ((0, "a", 2), (1, "a", 0)))), ("stand", 1))
        self.assertEqual(table_wrong((("a",), 3, ((0, "a", 1), (2, "a", 2)))), ("stand", 2))
        # Behind all arcs.
        self.assertEqual(table_wrong((("a",), 3, ((0, "a", 2), (2, "x", 0)))), ("arc", 1))
        self.assertIsNone(table_wrong((("a",), 3, ((0, "a", 2), (2, "a", 1)))))

    def test_no_table(self):
        for thing, wrong in [(None, ("form",)), ((("a",), 1, ((0, "b", 0),)), ("arc", 0)), (((), 2, ()), ("stand", 1))]:
            for ask in [roads, rings, lambda table: same(table, ONE), lambda table: same(ONE, table),
                        lambda table: same(table, ((), 0, ()))]:
                with self.assertRaises(NoTable) as caught:
                    ask(thing)
                self.assertEqual(caught.exception.wrong, wrong)


class TableOf(unittest.TestCase):

    def test_of_nets(self):
        self.assertEqual(table_of(net=DOOR, most=3), DOOR_TABLE)
        self.assertEqual(table_of(((("a", 5),), ())), ONE)
        self.assertEqual(table_of(((("a", 0),), (("t", "", (("a", 1),), ()), ("a", "x", (), ())))), (("t", "a"), 1, ((0, "a", 0),)))

    def test_as_reach_tells(self):
        chance = random.Random(70)
        for _ in range(100):
            net = net_by_chance(chance, 3, 4, 2, 2, 2)
            try:
                heaps, steps = reach(net, most=50)
            except TooGreat:
                continue
            table = table_of(net)
            self.assertIsNone(table_wrong(table))
            self.assertEqual(table[1], len(heaps))
            self.assertEqual([[(name, behind) for at, name, behind in table[2] if at == stand] for stand in range(table[1])], steps)

    def test_refused(self):
        for net, most, told in [(WELL, 2000, 2000), (WELL, 9, 9), (DOOR, 2, 2), (DOOR, 0, 0)]:
            with self.assertRaises(TooGreat) as caught:
                table_of(net, most=most)
            self.assertEqual(caught.exception.most, told)
        for thing, wrong in NO_NETS:
            with self.assertRaises(NoNet) as caught:
                table_of(thing)
            self.assertEqual(caught.exception.wrong, wrong)


class Roads(unittest.TestCase):

    def test_the_shortest_and_first(self):
        self.assertEqual(roads(table=DOOR_TABLE), [(), ("enter",), ("lose",)])
        # By the names' order, not by the names as texts.
        self.assertEqual(roads(SQUARE), [(), ("a",), ("b",), ("b", "a")])
        self.assertEqual(roads(named_anew(SQUARE, ["a", "b"])), [(), ("a",), ("b",), ("a", "b")])
        self.assertEqual(roads(ONE), [()])

    def test_shorter_ahead_of_first(self):
        table = (("a", "b"), 3, ((0, "a", 1), (0, "b", 2), (1, "a", 2)))
        self.assertEqual(roads(table), [(), ("a",), ("b",)])

    def test_against_all_rows(self):
        chance = random.Random(71)
        for _ in range(80):
            table = table_by_chance(chance, 5, 3)
            told = roads(table)
            first = {}
            for row in rows_by_order(table[0], 4):
                end = stand_behind(table, row)
                if end is not None:
                    first.setdefault(end, row)
            self.assertEqual(told, [first[stand] for stand in range(table[1])])

    def test_rings(self):
        self.assertEqual(rings(table=DOOR_TABLE), [(0, 0, 0), (0, 0, 0), (1, 1, 0)])
        self.assertEqual(rings(SQUARE), [(0, 0), (0, 0), (0, 0), (0, 0)])
        self.assertEqual(rings(ONE), [])
        # A name that no arc has has its place in each, too; a name may stand twice in a road.
        table = (("x", "a", "b"), 3, ((0, "a", 1), (1, "a", 2), (2, "a", 2), (2, "b", 0)))
        self.assertEqual(rings(table), [(0, 0, 0), (0, 0, 0), (0, 1, 0), (0, 2, 1)])
        table = (("a", "b"), 3, ((0, "a", 1), (0, "b", 2), (1, "b", 2)))
        self.assertEqual(rings(table), [(0, 0), (0, 0), (1, 0)])

    def test_rings_of_roads_arcs_are_0(self):
        chance = random.Random(72)
        for _ in range(60):
            table = table_by_chance(chance)
            told, ways = rings(table), roads(table)
            for (stand, name, behind), told_ring in zip(table[2], told, strict=True):
                if ways[behind] == ways[stand] + (name,):
                    self.assertEqual(told_ring, (0,) * len(table[0]))
                counts = [ways[stand].count(own) + (own == name) - ways[behind].count(own) for own in table[0]]
                self.assertEqual(told_ring, tuple(counts))

    def test_told_lists_are_new(self):
        for ask in [roads, rings]:
            self.assertTrue(is_deeply_fresh(lambda: ask(DOOR_TABLE)))


class Same(unittest.TestCase):

    def test_but_for_the_numbers(self):
        self.assertIsNone(same(one=SQUARE, other=SQUARE))
        for order in itertools.permutations(range(1, 4)):
            self.assertIsNone(same(SQUARE, renumbered(SQUARE, [0, *order])))

    def test_names(self):
        self.assertIsNone(same(SQUARE, named_anew(SQUARE, ["a", "b"])))
        self.assertIsNone(same(SQUARE, named_anew(SQUARE, ["x", "a", "y", "b"])))
        self.assertIsNone(same(named_anew(SQUARE, ["x", "a", "y", "b"]), SQUARE))
        self.assertIsNone(same(ONE, (("a", "b"), 1, ())))

    def test_nets_with_firings_in_another_order(self):
        for net in [DOOR, ring(3, 2)]:
            for order in itertools.permutations(net[1]):
                self.assertIsNone(same(table_of(net), table_of((net[0], order))))

    def test_a_row_that_one_has(self):
        loop = (("a",), 1, ((0, "a", 0),))
        for one, other in [(loop, ONE), (ONE, loop)]:
            self.assertEqual(same(one, other), (("a",),))
        longer = (("a",), 3, ((0, "a", 1), (1, "a", 2)))
        shorter = (("a",), 2, ((0, "a", 1),))
        for one, other in [(longer, shorter), (shorter, longer)]:
            self.assertEqual(same(one, other), (("a", "a"),))

    def test_the_first_one(self):
        # By their length, then by the first one's names, then by those that only the second has.
        both = (("b", "a"), 2, ((0, "b", 1), (0, "a", 1)))
        self.assertEqual(same(both, ONE), (("b",),))
        self.assertEqual(same(ONE, both), (("b",),))
        self.assertEqual(same((("a",), 1, ()), both), (("a",),))
        self.assertEqual(same((("a", "b"), 1, ()), both), (("a",),))
        self.assertEqual(same((("c",), 2, ((0, "c", 1),)), both), (("c",),))
        self.assertEqual(same(both, (("c",), 2, ((0, "c", 1),))), (("b",),))

    def test_two_rows(self):
        # In the one they lead to one stand, in the other to two.
        joined = (("a", "b"), 2, ((0, "a", 1), (0, "b", 1)))
        apart = (("a", "b"), 3, ((0, "a", 1), (0, "b", 2)))
        for one, other in [(joined, apart), (apart, joined)]:
            self.assertEqual(same(one, other), (("a",), ("b",)))
        # The row of no names is one, too.
        loop = (("a",), 1, ((0, "a", 0),))
        pair = (("a",), 2, ((0, "a", 1), (1, "a", 0)))
        for one, other in [(loop, pair), (pair, loop)]:
            self.assertEqual(same(one, other), ((), ("a",)))

    def test_the_first_with_it(self):
        # c leads, in the first, to where a leads, in the second to where b leads.
        first = (("a", "b", "c"), 3, ((0, "a", 1), (0, "b", 2), (0, "c", 1)))
        second = (("a", "b", "c"), 3, ((0, "a", 1), (0, "b", 2), (0, "c", 2)))
        for one, other in [(first, second), (second, first)]:
            self.assertEqual(same(one, other), (("a",), ("c",)))
        first = (("b", "a", "c"), 3, ((0, "b", 2), (0, "a", 1), (0, "c", 1)))
        self.assertEqual(same(first, second), (("b",), ("c",)))

    def test_both_sorts(self):
        # c leads to another stand in the second, which has no d either: the first of both is told.
        def table(names, other, has_d):
            arcs = {"a": 1, "b": 2, "c": other, **({"d": 1} if has_d else {})}
            return (names, 3, tuple([(0, name, arcs[name]) for name in names if name in arcs]))
        self.assertEqual(same(table(("a", "b", "c", "d"), 1, True), table(("a", "b", "c", "d"), 2, False)), (("a",), ("c",)))
        self.assertEqual(same(table(("a", "b", "d", "c"), 1, True), table(("a", "b", "d", "c"), 2, False)), (("d",),))
        # A shorter row is ahead of both, wherever its names stand.
        one = (("a", "b"), 2, ((0, "a", 1), (0, "b", 1), (1, "a", 0)))
        other = (("a", "b"), 2, ((0, "a", 1), (1, "a", 0)))
        self.assertEqual(same(one, other), (("b",),))

    def test_against_all_rows(self):
        chance = random.Random(74)
        kinds = {None: 0, 1: 0, 2: 0}
        for _ in range(600):
            one = table_by_chance(chance, 4, 3)
            other = table_by_chance(chance, 4, 3)
            if chance.random() < 0.7:
                arcs = [arc if chance.random() < 0.8 else (*arc[:2], chance.randrange(one[1])) for arc in one[2]]
                other = (one[0], one[1], tuple(arcs))
                if table_wrong(other) is not None:
                    continue
                other = renumbered(other, [0, *chance.sample(range(1, one[1]), one[1] - 1)])
            told = same(one, other)
            kinds[told and len(told)] += 1
            self.assertEqual(told, same_slowly(one, other, 5))
        for kind, many in kinds.items():
            self.assertGreater(many, 15, kind)

    def test_what_is_handed_in_stays(self):
        table = copy.deepcopy(SQUARE)
        roads(table), rings(table), same(table, DOOR_TABLE)
        self.assertEqual(table, SQUARE)


if __name__ == "__main__":
    unittest.main()
