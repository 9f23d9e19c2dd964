import copy
import heapq
import random
import unittest

from samples import DOOR, MILL, NO_NETS, STRANGE, WELL, is_deeply_fresh, net_by_chance
from tokenfold.errors import NoCount, NoHeap, NoLaying, NoNet, NoPrices, NoRow, TooGreat
from tokenfold.firing import can, fired, start_heap
from tokenfold.logs import cost_of, fits, laid, laid_all, laying_least, laying_wrong, paper_of
from tokenfold.texts import read_net

# Who comes in, drinks tea or milk, and goes; between both a silent rest.
INN = read_net(["place out 1", "place bar 0", "place bed 0", "fire come as in : out -> bar", "fire tea as drink : bar -> bar",
                "fire milk as drink : bar -> bed", "fire rest : bed -> bar", "fire go as out : bar -> out"])
DRINKS = (("both", "come"), ("both", "milk"), ("net", "rest"), ("both", "tea"), ("both", "go"))
NO_ROWS = [None, (), ("in",), "in", 0, True, {}, [None], [""], ["In"], ["as"], ["in", 1], [["in"]], [("in",)], ["abcdefghi"], ["1a"],
           ["in", "fire"]]
NO_PRICES = [None, (), (1,), (1, 1, 1), [1, 1], (0, 1), (1, 0), (100, 1), (1, 100), (True, 1), (1, True), (-1, 1), (1, None),
             ("1", 1), 1, "11"]
NO_COUNTS = [0, -1, 100001, True, False, None, "1", (1,), [2000]]


def moves_at(net, row, pair):
    """All moves from a pair, each with the pair behind it, in the order of the judge."""
    heap, number = pair
    able = [firing for firing in net[1] if firing[0] in can(net, heap)]
    label = row[number] if number < len(row) else None
    told = [(("both", firing[0]), (fired(net, heap, firing[0]), number + 1)) for firing in able
            if firing[1] == label and label is not None]
    told += [(("net", firing[0]), (fired(net, heap, firing[0]), number)) for firing in able]
    return told + ([(("log", label), (heap, number + 1))] if label is not None else [])


def price(net, move, prices):
    if move[0] == "log":
        return prices[0]
    labels = {firing[0]: firing[1] for firing in net[1]}
    return prices[1] if move[0] == "net" and labels[move[1]] != "" else 0


def slowly(net, row, goal=None, prices=(1, 1), limit=400):
    """The laying as the document tells it, with all pairs near and their costs; None where there are more than the limit."""
    begin = (start_heap(net), 0)
    queue = [(0, 0, (), begin)]
    costs, best = {}, None
    while queue:
        cost, many, moves, pair = heapq.heappop(queue)
        if best is not None and cost > best[0]:
            break
        if pair in costs:
            continue
        costs[pair] = cost
        if len(costs) > limit:
            return None
        if best is None and pair[1] == len(row) and goal in (None, pair[0]):
            best = (cost, moves)
        for move, behind in moves_at(net, row, pair):
            heapq.heappush(queue, (cost + price(net, move, prices), many + 1, (*moves, move), behind))
    return best, costs


def drawn(chance):
    """A net with labels, and a row of some of them."""
    net = net_by_chance(chance, 3, 5, 2, 2, 2)
    net = (net[0], tuple([(name, chance.choice(["", "x", "x", "y", "z"]), takes, gives) for name, _, takes, gives in net[1]]))
    return net, [chance.choice("xxyzw") for _ in range(chance.randrange(5))]


def raised(ask):
    """The class and the fields of what is refused."""
    try:
        ask()
    except (NoNet, NoRow, NoHeap, NoPrices, NoCount, NoLaying, TooGreat) as error:
        return (type(error), *vars(error).values())
    return None


class LayingWrong(unittest.TestCase):

    ROW = ["in", "drink", "drink", "out"]

    def wrong(self, thing, row=ROW, goal=None):
        return laying_wrong(INN, row, thing, goal=goal)

    def test_layings(self):
        self.assertIsNone(laying_wrong(net=INN, row=self.ROW, thing=DRINKS))
        self.assertIsNone(self.wrong((("log", "in"), ("log", "drink"), ("log", "drink"), ("log", "out"))))
        self.assertIsNone(self.wrong((("log", "in"), ("net", "come"), ("net", "milk"), ("log", "drink"), ("log", "drink"), ("log", "out"))))
        self.assertIsNone(self.wrong((), []))
        self.assertIsNone(self.wrong((("net", "come"), ("net", "go")) * 3, []))

    def test_goals(self):
        self.assertIsNone(self.wrong(DRINKS, goal=(1, 0, 0)))
        self.assertEqual(self.wrong(DRINKS, goal=(0, 1, 0)), ("move", 5))
        self.assertIsNone(self.wrong((*DRINKS, ("net", "come")), goal=(0, 1, 0)))
        self.assertIsNone(self.wrong((*DRINKS, ("net", "come"))))
        self.assertEqual(self.wrong((*DRINKS, ("net", "come")), goal=(1, 0, 0)), ("move", 6))
        # One that goes over the goal and away hasn't come to it.
        self.assertEqual(self.wrong((("net", "come"),), [], goal=(1, 0, 0)), ("move", 1))
        self.assertIsNone(self.wrong((), [], goal=(1, 0, 0)))

    def test_form(self):
        for thing in STRANGE + [list(DRINKS), (("both",),), (("both", "come", 0),), (["both", "come"],), (("Both", "come"),),
                                (("net", None),), (("net", 0),), (("log", ["in"]),), ((None, "come"),), ((["both"], "come"),),
                                (("both", "come"), None), ((),), ("both", "come"), (("begin", "come"),), (("", ""),), ((True, "come"),)]:
            if thing != ():
                self.assertEqual(self.wrong(thing), ("form",), thing)

    def test_move(self):
        for k, move in [(0, ("both", "tea")), (0, ("both", "x")), (0, ("both", "")), (0, ("net", "tea")), (0, ("net", "in")),
                        (0, ("net", "x")), (0, ("log", "drink")), (0, ("log", "come")), (0, ("log", "")), (0, ("both", "rest")),
                        (1, ("both", "come")), (1, ("both", "go")), (1, ("log", "in")), (2, ("both", "tea")), (2, ("both", "rest")),
                        (3, ("both", "go")), (4, ("both", "out")), (4, ("log", "in"))]:
            moves = (*DRINKS[:k], move, *DRINKS[k + 1:])
            self.assertEqual(self.wrong(moves), ("move", k), move)

    def test_the_first_move(self):
        self.assertEqual(self.wrong((("both", "come"), ("net", "x"), ("log", "x"))), ("move", 1))

    def test_not_read_to_its_end(self):
        for k in range(5):
            self.assertEqual(self.wrong(DRINKS[:k]), ("move", k))
        self.assertEqual(self.wrong(DRINKS, self.ROW + ["in"]), ("move", 5))
        # Behind the row's end nothing is read.
        self.assertEqual(self.wrong((*DRINKS, ("log", "in"))), ("move", 5))
        self.assertEqual(self.wrong((*DRINKS, ("both", "come"))), ("move", 5))

    def test_labels_of_the_net_and_others(self):
        self.assertIsNone(self.wrong((("log", "x"),), ["x"]))
        self.assertEqual(self.wrong((("both", "come"),), ["come"]), ("move", 0))
        self.assertIsNone(self.wrong((("log", "come"),), ["come"]))


class CostOf(unittest.TestCase):

    def test_costs(self):
        self.assertEqual(cost_of(net=INN, laying=DRINKS), 0)
        self.assertEqual(cost_of(INN, ()), 0)
        moves = (("log", "x"), ("net", "come"), ("net", "rest"), ("both", "come"), ("log", "in"), ("net", "go"))
        self.assertEqual(cost_of(INN, moves), 4)
        self.assertEqual(cost_of(INN, moves, prices=(7, 30)), 2 * 7 + 2 * 30)
        self.assertEqual(cost_of(INN, moves, prices=(99, 1)), 2 * 99 + 2)

    def test_of_moves_that_can_t_be_made(self):
        self.assertEqual(cost_of(INN, (("net", "go"),) * 5 + (("both", "rest"),)), 5)
        self.assertEqual(cost_of(INN, (("log", ""), ("log", "Any thing"))), 2)

    def test_refused(self):
        for thing in [None, list(DRINKS), (None,), (("both",),), ("both", "come"), (("both", "x"),), (("net", "in"),), (("net", ""),),
                      (("log", None),), (("both", "come"), ("both", "x")), (("lay", "come"),)]:
            self.assertEqual(raised(lambda: cost_of(INN, thing)), (NoLaying,), thing)
            self.assertEqual(raised(lambda: cost_of(INN, thing, prices=(0, 1))), (NoPrices,))


class Refused(unittest.TestCase):
    """In this order: NoNet, NoRow, NoHeap, NoPrices, NoCount, TooGreat, NoLaying."""

    ASKED = [
        lambda net, row, goal, prices, most: laid(net, row, goal=goal, prices=prices, most=most),
        lambda net, row, goal, prices, most: paper_of(net, row, goal=goal, prices=prices, most=most),
        lambda net, row, goal, prices, most: laying_least(net, row, None, None, goal=goal, prices=prices),
        lambda net, row, goal, prices, most: laying_wrong(net, row, None, goal=goal),
        lambda net, row, goal, prices, most: fits(net, row, goal=goal, most=most),
        lambda net, row, goal, prices, most: laid_all(net, [row], prices=prices, most=most),
        lambda net, row, goal, prices, most: cost_of(net, (), prices=prices),
    ]

    def test_net(self):
        for ask in self.ASKED:
            for thing, wrong in NO_NETS:
                self.assertEqual(raised(lambda: ask(thing, None, 0, None, 0)), (NoNet, wrong))

    def test_row(self):
        for ask in self.ASKED[:6]:
            for row in NO_ROWS:
                self.assertEqual(raised(lambda: ask(INN, row, 0, None, 0)), (NoRow,), row)

    def test_goal(self):
        for ask in self.ASKED[:5]:
            for goal, wrong in [(0, ("heap",)), ((1, 0), ("heap",)), ([1, 0, 0], ("heap",)), ((1, True, 0), ("place", 1)),
                                ((1, 0, -1), ("place", 2)), (False, ("heap",)), ((), ("heap",))]:
                self.assertEqual(raised(lambda: ask(INN, ["in"], goal, None, 0)), (NoHeap, wrong), goal)

    def test_prices(self):
        for ask in [*self.ASKED[:3], *self.ASKED[5:]]:
            for prices in NO_PRICES:
                self.assertEqual(raised(lambda: ask(INN, ["in"], None, prices, 0)), (NoPrices,), prices)
            for prices in [(1, 99), (99, 1)]:
                self.assertNotEqual(raised(lambda: ask(INN, ["in"], None, prices, 0)), (NoPrices,))

    def test_count(self):
        for ask in [*self.ASKED[:2], *self.ASKED[4:6]]:
            for most in NO_COUNTS:
                self.assertEqual(raised(lambda: ask(INN, ["in"], None, (1, 1), most)), (NoCount,), most)
            for most in [2000, 100000]:
                self.assertIsNone(raised(lambda: ask(INN, ["in"], None, (1, 1), most)), most)
            self.assertIsNone(raised(lambda: ask(DOOR, [], None, (1, 1), 10)))

    def test_too_great_ahead_of_no_laying(self):
        for ask in self.ASKED[:2]:
            self.assertEqual(raised(lambda: ask(INN, [], (0, 0, 0), (1, 1), 2)), (TooGreat, 2))
            self.assertEqual(raised(lambda: ask(INN, [], (0, 0, 0), (1, 1), 3)), (NoLaying,))


class Laid(unittest.TestCase):

    def test_what_fits(self):
        self.assertEqual(laid(net=INN, row=["in", "drink", "drink", "out"]),
                         (0, (("both", "come"), ("both", "tea"), ("both", "tea"), ("both", "go"))))
        self.assertEqual(laid(INN, []), (0, ()))
        self.assertEqual(laid(INN, ["in"], prices=(3, 5), most=2000, goal=None), (0, (("both", "come"),)))

    def test_the_least_cost(self):
        self.assertEqual(laid(INN, ["drink"]), (1, (("log", "drink"),)))
        self.assertEqual(laid(INN, ["drink"], prices=(5, 1)), (1, (("net", "come"), ("both", "milk"))))
        self.assertEqual(laid(INN, ["drink", "drink"], prices=(5, 9)), (9, (("net", "come"), ("both", "tea"), ("both", "milk"))))
        self.assertEqual(laid(INN, ["in", "x", "out"]), (1, (("both", "come"), ("log", "x"), ("both", "go"))))

    def test_the_fewest_moves(self):
        # To read both alone costs as much as to fire ahead and behind.
        self.assertEqual(laid(INN, ["drink", "drink"], prices=(1, 2)), (2, (("log", "drink"), ("log", "drink"))))
        # A silent firing costs nothing, but is a move more.
        net = read_net(["place a 1", "place b 0", "place c 0", "fire s : a -> b", "fire t as x : b -> c", "fire u as x : a -> c"])
        self.assertEqual(laid(net, ["x"]), (0, (("both", "u"),)))

    def test_the_least_as_a_tuple(self):
        # By the texts, not by the net's order: both is ahead of log, that of net, and their names as Python compares them.
        rows = ["place a 1", "place b 0", "fire z as x : a -> b", "fire b as x : a -> b", "fire m as y : b -> a"]
        net = read_net(rows)
        self.assertEqual(laid(net, ["x"]), (0, (("both", "b"),)))
        self.assertEqual(laid(net, ["x", "y", "x"]), (0, (("both", "b"), ("both", "m"), ("both", "b"))))
        self.assertEqual(laid(net, ["y"], goal=(0, 1)), (2, (("log", "y"), ("net", "b"))))
        self.assertEqual(laid(net, ["y", "x"]), (1, (("log", "y"), ("both", "b"))))
        self.assertEqual(laid(net, ["y"], prices=(1, 1), goal=(1, 0)), (1, (("log", "y"),)))
        # Not the least move first, where that leads to no laying of that cost.
        lost = read_net([*rows, "place c 0"][:2] + ["place c 0"] + rows[2:4] + ["fire a as x : a -> c", "fire m as y : b -> a"])
        self.assertEqual(laid(lost, ["x", "y"]), (0, (("both", "b"), ("both", "m"))))
        self.assertEqual(laid(lost, ["x"]), (0, (("both", "a"),)))

    def test_a_goal_that_is_come_to_later(self):
        self.assertEqual(laid(INN, ["in"], goal=(1, 0, 0)), (1, (("log", "in"),)))
        self.assertEqual(laid(INN, ["in"], goal=(1, 0, 0), prices=(2, 1)), (1, (("both", "come"), ("net", "go"))))
        self.assertEqual(laid(INN, ["in"], goal=(0, 0, 1)), (1, (("both", "come"), ("net", "milk"))))
        self.assertEqual(laid(INN, ["in", "drink"], goal=(0, 1, 0)), (0, (("both", "come"), ("both", "tea"))))
        self.assertEqual(laid(INN, [], goal=(0, 1, 0), prices=(1, 42)), (42, (("net", "come"),)))
        self.assertEqual(laid(INN, [], goal=(1, 0, 0)), (0, ()))

    def test_no_laying(self):
        for row in [[], ["in"], ["x"]]:
            self.assertEqual(raised(lambda: laid(INN, row, goal=(1, 1, 0))), (NoLaying,))
            self.assertEqual(raised(lambda: paper_of(INN, row, goal=(1, 1, 0))), (NoLaying,))
            self.assertIs(fits(INN, row, goal=(1, 1, 0)), False)
        # A row alone has one always: all of it may be read alone.
        self.assertEqual(laid(INN, ["x", "y"]), (2, (("log", "x"), ("log", "y"))))

    def test_most(self):
        # Near are the begin, and what comes of it for nothing, the cost of all that is told.
        cases = [(INN, [], None, (1, 1)), (INN, ["drink"], None, (1, 1)), (INN, ["in"], None, (1, 1)), (INN, ["x", "in"], None, (3, 2)),
                 (INN, ["in"], (1, 1, 0), (1, 1)), (DOOR, ["enter"], None, (1, 1)), (INN, [], (0, 0, 1), (1, 5))]
        for net, row, goal, prices in cases:
            many = len(slowly(net, row, goal, prices)[1])
            for most in range(1, many + 3):
                told = raised(lambda: laid(net, row, goal=goal, prices=prices, most=most))
                expected = (TooGreat, most) if most < many else (NoLaying,) if slowly(net, row, goal, prices)[0] is None else None
                self.assertEqual(told, expected)
                for ask in [lambda: paper_of(net, row, goal=goal, prices=prices, most=most)]:
                    self.assertEqual(raised(ask), expected)
                if prices == (1, 1):
                    told = raised(lambda: fits(net, row, goal=goal, most=most))
                    self.assertEqual(told, expected if most < many else None)

    def test_near_pairs_behind_the_laying(self):
        # The laying is found at once, and what silent firings lead to from its end on is near, too.
        net = ((("a", 5), ("b", 0)), (("t", "", (("a", 1),), (("b", 1),)),))
        self.assertEqual(raised(lambda: laid(net, [], most=5)), (TooGreat, 5))
        self.assertEqual(laid(net, [], most=6), (0, ()))
        self.assertEqual(raised(lambda: laid(net, ["x"], most=11)), (TooGreat, 11))
        self.assertEqual(laid(net, ["x"], most=12), (1, (("log", "x"),)))

    def test_endlessly_many(self):
        silent = ((("a", 0),), (("t", "", (), (("a", 1),)),))
        for most in [1, 7, 2000, 100000]:
            self.assertEqual(raised(lambda: laid(silent, ["x"], most=most)), (TooGreat, most))
            self.assertEqual(raised(lambda: fits(silent, ["x"], most=most)), (TooGreat, most))
        # Where it costs to fire, only so many are near.
        loud = ((("a", 0),), (("t", "y", (), (("a", 1),)),))
        self.assertEqual(laid(loud, ["x"], most=4), (1, (("log", "x"),)))
        self.assertEqual(raised(lambda: laid(loud, ["x"], most=2)), (TooGreat, 2))
        self.assertEqual(raised(lambda: laid(loud, ["x"], goal=None, prices=(9, 1), most=20)), None)
        # With a goal that no moves lead to, endlessly many are.
        net = ((("a", 0), ("b", 0)), (("t", "y", (), (("a", 1),)),))
        self.assertEqual(raised(lambda: laid(net, [], goal=(0, 1), most=50)), (TooGreat, 50))
        # Endlessly many by two silent ones, in turns; and such that never come to more.
        turns = read_net(["place a 1", "place b 0", "place c 0", "fire t : a -> b", "fire u : b -> a + c"])
        self.assertEqual(raised(lambda: laid(turns, ["x"])), (TooGreat, 2000))
        self.assertEqual(laid(read_net(["place a 1", "place b 0", "fire t : a -> b", "fire u : b -> a"]), ["x"])[0], 1)
        # Silent ones that grow only behind a firing that costs more than the laying.
        behind = read_net(["place a 1", "place b 0", "place c 0", "fire t as y : a -> b", "fire u : b -> b + c"])
        self.assertEqual(laid(behind, [], most=1), (0, ()))
        self.assertEqual(laid(behind, ["x"], prices=(1, 2)), (1, (("log", "x"),)))
        self.assertEqual(raised(lambda: laid(behind, ["x"])), (TooGreat, 2000))

    def test_against_all_layings(self):
        chance = random.Random(80)
        told = {"some": 0, "none": 0, "many": 0}
        for _ in range(500):
            net, row = drawn(chance)
            goal = tuple([chance.randrange(3) for _ in net[0]]) if chance.random() < 0.4 else None
            prices = (chance.randrange(1, 4), chance.randrange(1, 4))
            ways = slowly(net, row, goal, prices, 60)
            ask = [lambda: laid(net, row, goal=goal, prices=prices, most=60), lambda: paper_of(net, row, goal=goal, prices=prices, most=60)]
            if ways is None or ways[0] is None:
                told["many" if ways is None else "none"] += 1
                for one in ask:
                    self.assertEqual(raised(one), (TooGreat, 60) if ways is None else (NoLaying,))
                continue
            told["some"] += 1
            self.assertEqual(ask[0](), ways[0])
            self.assertIsNone(laying_wrong(net, row, ways[0][1], goal=goal))
            self.assertEqual(cost_of(net, ways[0][1], prices=prices), ways[0][0])
            pairs = sorted([(*pair, cost) for pair, cost in ways[1].items() if cost < ways[0][0]])
            self.assertEqual(ask[1](), pairs)
            self.assertIsNone(laying_least(net, row, ways[0], pairs, goal=goal, prices=prices))
        for kind, many in told.items():
            self.assertGreater(many, 30, kind)

    def test_told_lists_are_new(self):
        row = ["drink", "x"]
        self.assertTrue(is_deeply_fresh(lambda: paper_of(INN, row)))
        self.assertTrue(is_deeply_fresh(lambda: laid_all(INN, [row, ["in"]])))
        self.assertEqual(row, ["drink", "x"])


class PaperOf(unittest.TestCase):

    def test_papers(self):
        self.assertEqual(paper_of(net=INN, row=["in"]), [])
        self.assertEqual(paper_of(INN, ["drink"]), [((1, 0, 0), 0, 0)])
        self.assertEqual(paper_of(INN, ["drink"], prices=(2, 3)), [((1, 0, 0), 0, 0)])
        self.assertEqual(paper_of(INN, ["x", "x"]), [((0, 1, 0), 0, 1), ((1, 0, 0), 0, 0), ((1, 0, 0), 1, 1)])
        self.assertEqual(paper_of(INN, ["in", "x"], prices=(2, 1), goal=None, most=99),
                         [((0, 0, 1), 1, 1), ((0, 1, 0), 0, 1), ((0, 1, 0), 1, 0), ((1, 0, 0), 0, 0), ((1, 0, 0), 1, 1)])


class LayingLeast(unittest.TestCase):

    ROW = ["in", "x"]
    TOLD = (2, (("both", "come"), ("log", "x")))
    PAPER = [((0, 0, 1), 1, 1), ((0, 1, 0), 0, 1), ((0, 1, 0), 1, 0), ((1, 0, 0), 0, 0), ((1, 0, 0), 1, 1)]

    def wrong(self, told, thing, row=ROW, goal=None, prices=(2, 1)):
        return laying_least(INN, row, told, thing, goal=goal, prices=prices)

    def test_right_ones(self):
        self.assertEqual(laid(INN, self.ROW, prices=(2, 1)), self.TOLD)
        self.assertEqual(paper_of(INN, self.ROW, prices=(2, 1)), self.PAPER)
        self.assertIsNone(self.wrong(self.TOLD, self.PAPER))
        self.assertIsNone(laying_least(net=INN, row=["in"], told=(0, (("both", "come"),)), thing=[]))
        # In any order; another laying that costs as much.
        self.assertIsNone(self.wrong(self.TOLD, self.PAPER[::-1]))
        net = read_net(["place a 1", "fire t : a -> a"])
        self.assertIsNone(laying_least(net, ["x"], (1, (("net", "t"), ("log", "x"))), [((1,), 0, 0)]))

    def test_lesser_leasts_and_more_pairs(self):
        lesser = [(heap, number, max(least - 1, 0)) for heap, number, least in self.PAPER]
        # A lesser least asks for more: what can be made there must cost enough.
        self.assertEqual(self.wrong(self.TOLD, lesser)[0], "move")
        more = self.PAPER + [((0, 0, 1), 0, 2), ((5, 5, 5), 0, 9), ((0, 0, 7), 1, 2)]
        self.assertIsNone(self.wrong(self.TOLD, more))
        chain = read_net(["place a 1", "fire t as y : a -> a"])
        told = laid(chain, ["x", "x"])
        paper = paper_of(chain, ["x", "x"])
        self.assertEqual((told[0], paper), (2, [((1,), 0, 0), ((1,), 1, 1)]))
        self.assertIsNone(laying_least(chain, ["x", "x"], told, paper))
        self.assertEqual(laying_least(chain, ["x", "x"], told, [((1,), 0, 0), ((1,), 1, 0)]), ("move", 1, 1))
        self.assertIsNone(laying_least(chain, ["x", "y"], (1, (("log", "x"), ("both", "t"))), [((1,), 0, 0)]))
        # Here a lesser one will do, as the row's last label costs more.
        self.assertIsNone(laying_least(chain, ["x", "x"], (6, (("log", "x"),) * 2), [((1,), 0, 0), ((1,), 1, 3)], prices=(3, 1)))
        self.assertEqual(laying_least(chain, ["x", "x"], (6, (("log", "x"),) * 2), [((1,), 0, 0), ((1,), 1, 2)], prices=(3, 1)),
                         ("move", 1, 1))
        slack = read_net(["place a 1", "place b 0", "fire t as y : a -> b"])
        self.assertIsNone(laying_least(slack, ["x"], (1, (("log", "x"),)), [((1, 0), 0, 0)]))
        self.assertIsNone(laying_least(slack, ["x"], (2, (("log", "x"),)), [((1, 0), 0, 0), ((0, 1), 0, 1)], prices=(2, 1)))
        self.assertIsNone(laying_least(slack, ["x"], (2, (("log", "x"),)), [((1, 0), 0, 0), ((0, 1), 0, 0)], prices=(2, 1)))

    def test_form(self):
        for thing in STRANGE + [tuple(self.PAPER), [((1, 0, 0), 0)], [((1, 0, 0), 0, 0, 0)], [[(1, 0, 0), 0, 0]], [((1, 0), 0, 0)],
                                [((1, 0, 0, 0), 0, 0)], [([1, 0, 0], 0, 0)], [((1, True, 0), 0, 0)], [((1, -1, 0), 0, 0)],
                                [((1, 0, 0), -1, 0)], [((1, 0, 0), 3, 0)], [((1, 0, 0), True, 0)], [((1, 0, 0), None, 0)],
                                [((1, 0, 0), 0, -1)], [((1, 0, 0), 0, False)], [((1, 0, 0), 0, None)], [((1, 0, 0), 0, "0")],
                                self.PAPER + self.PAPER[:1], self.PAPER + [((1, 0, 0), 0, 1)], [(None, 0, 0)]]:
            if thing != []:
                self.assertEqual(self.wrong(None, thing), ("form",), thing)
                self.assertEqual(self.wrong(self.TOLD, thing), ("form",), thing)
        # A number may be the row's length, and then it is an end.
        self.assertEqual(self.wrong(self.TOLD, [((1, 0, 0), 0, 0), ((1, 0, 0), 2, 0)])[0], "move")
        self.assertEqual(self.wrong(self.TOLD, [((1, 0, 0), 2, 0)] + self.PAPER), ("end", 0))

    def test_laying(self):
        cost, laying = self.TOLD
        for told in STRANGE + [(cost,), (cost, laying, ()), [cost, laying], (cost + 1, laying), (cost - 1, laying), (cost, list(laying)),
                               (cost, laying[:1]), (cost, ()), (cost, (("both", "come"), ("both", "x"))), (cost, None), (None, laying),
                               (str(cost), laying), (cost, (("log", "in"), ("log", "x"))), (cost, (("log", "x"), ("log", "in")))]:
            self.assertEqual(self.wrong(told, self.PAPER), ("laying",), told)
        self.assertEqual(laying_least(INN, ["x"], (True, (("log", "x"),)), [((1, 0, 0), 0, 0)]), ("laying",))
        self.assertEqual(laying_least(INN, [], (False, ()), []), ("laying",))
        self.assertEqual(self.wrong(self.TOLD, self.PAPER, goal=(1, 0, 0)), ("laying",))
        # Ahead of the begin.
        self.assertEqual(self.wrong((1, laying), []), ("laying",))

    def test_begin(self):
        self.assertEqual(self.wrong(self.TOLD, []), ("begin",))
        for begin in [[], [((1, 0, 0), 0, 1)], [((1, 0, 0), 0, 2)]]:
            self.assertEqual(self.wrong(self.TOLD, [*self.PAPER[:3], *begin, *self.PAPER[4:]]), ("begin",))
        self.assertEqual(self.wrong(self.TOLD, [((0, 1, 0), 2, 0)]), ("begin",))
        self.assertIsNone(self.wrong((0, (("both", "come"),)), [], row=["in"]))

    def test_end_ahead_of_move(self):
        ends = [((0, 1, 0), 2, 5)]
        self.assertEqual(self.wrong(self.TOLD, self.PAPER + ends), ("end", 5))
        self.assertEqual(self.wrong(self.TOLD, self.PAPER[:4] + ends + self.PAPER[4:]), ("end", 4))
        # By k: of an earlier k a move that isn't so comes first.
        lacking = [pair for pair in self.PAPER if pair[:2] != ((0, 0, 1), 1)]
        self.assertEqual(self.wrong(self.TOLD, lacking + ends), ("move", 1, 1))
        self.assertEqual(self.wrong(self.TOLD, ends + lacking), ("end", 0))
        # Also where the cost is 0, and where the least is more than the cost.
        self.assertEqual(self.wrong((0, (("both", "come"),)), [((5, 5, 5), 1, 9)], row=["in"]), ("end", 0))
        # Without its goal it is no end.
        self.assertIsNone(laying_least(INN, [], (1, (("net", "come"),)), [((1, 0, 0), 0, 0)], goal=(0, 1, 0)))
        self.assertEqual(laying_least(INN, [], (1, (("net", "come"),)), [((0, 1, 0), 0, 1), ((1, 0, 0), 0, 0)], goal=(0, 1, 0)), ("end", 0))

    def test_move(self):
        # Of (0, 1, 0), 1 the moves are: net tea, net milk, net go, log; of (1, 0, 0), 0: both come, net come, log.
        for left_out, k, j in [(((0, 0, 1), 1), 1, 1), (((1, 0, 0), 1), 2, 2), (((0, 1, 0), 1), 0, 0), (((0, 1, 0), 0), 2, 1)]:
            thing = [pair for pair in self.PAPER if pair[:2] != left_out]
            self.assertEqual(self.wrong(self.TOLD, thing), ("move", k, j), left_out)

    def test_each_change(self):
        chance = random.Random(82)
        for _ in range(300):
            net, row = drawn(chance)
            try:
                told = laid(net, row, most=40)
            except TooGreat:
                continue
            paper = [(*pair, least) for *pair, least in paper_of(net, row)]
            if not paper:
                continue
            k = chance.randrange(len(paper))
            heap, number, least = paper[k]
            changed = paper[:k] + chance.choice([[], [(heap, number, least + 1)], [(heap, number, max(least - 1, 0))]]) + paper[k + 1:]
            self.assertEqual(laying_least(net, row, told, changed), self.slow_wrong(net, row, told, changed))

    def slow_wrong(self, net, row, told, thing):
        leasts = {pair[:2]: pair[2] for pair in thing}
        if told[0] and leasts.get((start_heap(net), 0)) != 0:
            return ("begin",)
        for k, (heap, number, least) in enumerate(thing):
            if number == len(row):
                return ("end", k)
            for j, (move, behind) in enumerate(moves_at(net, row, (heap, number))):
                further = least + price(net, move, (1, 1))
                if further < told[0] and not (behind in leasts and leasts[behind] <= further):
                    return ("move", k, j)
        return None

    def test_a_dearer_laying(self):
        dear = (3, (("net", "come"), ("log", "in")))
        self.assertIsNone(laying_wrong(INN, ["in"], dear[1]))
        self.assertEqual(cost_of(INN, dear[1], prices=(2, 1)), 3)
        for thing in [[], [((1, 0, 0), 0, 0)], [((1, 0, 0), 0, 0), ((0, 1, 0), 0, 1)]]:
            self.assertIsNotNone(laying_least(INN, ["in"], dear, thing, prices=(2, 1)))
        self.assertEqual(laying_least(INN, ["in"], dear, [((1, 0, 0), 0, 0)], prices=(2, 1)), ("move", 0, 0))
        self.assertEqual(laying_least(INN, ["in"], dear, [((1, 0, 0), 0, 0), ((0, 1, 0), 1, 0)], prices=(2, 1)), ("move", 0, 1))

    def test_what_is_handed_in_stays(self):
        row, thing = list(self.ROW), copy.deepcopy(self.PAPER)
        self.wrong(self.TOLD, thing, row)
        self.assertEqual((row, thing), (self.ROW, self.PAPER))


class All(unittest.TestCase):

    def test_costs_and_never(self):
        rows = [["in", "drink", "out"], ["in", "x"], [], ["drink"]]
        self.assertEqual(laid_all(net=INN, rows=rows), ([0, 1, 0, 1], ["milk", "rest"]))
        self.assertEqual(laid_all(INN, rows[1:3], prices=(4, 1), most=50), ([4, 0], ["tea", "milk", "rest", "go"]))
        # One that fires alone stands in it, too; what is read alone is no firing, though it may be called as one.
        self.assertEqual(laid_all(INN, [["drink"]], prices=(9, 1)), ([1], ["tea", "rest", "go"]))
        self.assertEqual(laid_all(INN, [["come"]]), ([1], ["come", "tea", "milk", "rest", "go"]))

    def test_no_rows(self):
        self.assertEqual(laid_all(INN, []), ([], ["come", "tea", "milk", "rest", "go"]))
        self.assertEqual(laid_all(INN, [], prices=None, most=None), ([], ["come", "tea", "milk", "rest", "go"]))
        for thing, wrong in NO_NETS:
            for rows in [[], None, [None]]:
                self.assertEqual(raised(lambda: laid_all(thing, rows)), (NoNet, wrong))
        for rows in [None, (), (["in"],), "in", 0, True]:
            self.assertEqual(raised(lambda: laid_all(INN, rows, prices=None, most=None)), (NoRow,))

    def test_the_first_row_that_is_refused(self):
        silent = ((("a", 0),), (("t", "", (), (("a", 1),)),))
        for row in NO_ROWS:
            self.assertEqual(raised(lambda: laid_all(INN, [["in"], row])), (NoRow,))
            self.assertEqual(raised(lambda: laid_all(silent, [["in"], row])), (TooGreat, 2000))
            self.assertEqual(raised(lambda: laid_all(silent, [row, ["in"]])), (NoRow,))
            self.assertEqual(raised(lambda: laid_all(INN, [row], prices=None)), (NoRow,))
            self.assertEqual(raised(lambda: laid_all(INN, [["in"], row], prices=None)), (NoPrices,))
            self.assertEqual(raised(lambda: laid_all(INN, [["in"], row], most=0)), (NoCount,))
        self.assertEqual(raised(lambda: laid_all(INN, [["in"], ["x", "x"]], most=3)), (TooGreat, 3))

    def test_fits(self):
        self.assertIs(fits(net=INN, row=["in", "drink", "drink", "out"]), True)
        self.assertIs(fits(INN, []), True)
        self.assertIs(fits(INN, ["drink"]), False)
        self.assertIs(fits(INN, ["in"], goal=(0, 1, 0), most=9), True)
        self.assertIs(fits(INN, ["in"], goal=(1, 0, 0)), False)
        self.assertIs(fits(INN, ["in", "drink"], goal=(0, 0, 1)), True)
        self.assertEqual(raised(lambda: fits(INN, ["drink"], most=1)), (TooGreat, 1))

    def test_nets_without_an_end(self):
        self.assertEqual(raised(lambda: fits(MILL, ["go"], most=200)), (TooGreat, 200))
        self.assertEqual(raised(lambda: fits(WELL, [], most=200)), (TooGreat, 200))


if __name__ == "__main__":
    unittest.main()
