import copy
import itertools
import random
import unittest

from samples import DOOR, MILL, NO_NETS, STRANGE, WELL, is_deeply_fresh, net_by_chance
from tokenfold.cover import covered
from tokenfold.errors import NoFiring, NoHeap, NoNet, NoTurn, Stuck, TooGreat
from tokenfold.firing import can, fired, gone, start_heap, words
from tokenfold.nets import net_wrong
from tokenfold.reach import reach
from tokenfold.reductions import (heap_back, heap_back_by, heap_led, heap_led_by, reduced, row_back, row_back_by, row_led,
                                  row_led_by, turn_wrong, turned)
from tokenfold.texts import printed
from tokenfold.texts import read_net as read_text


def read_net(rows):
    """The net of the rows, the parts of which may be written in any order."""
    places, firings = read_text(rows)
    order = [name for name, _ in places]
    sides = [[tuple(sorted(side, key=lambda part: order.index(part[0]))) for side in firing[2:]] for firing in firings]
    return (places, tuple([(*firing[:2], *side) for firing, side in zip(firings, sides)]))


# Of each sort a net at which it may be done, and the net behind it.
TWINS = read_net(["place a 2", "place b 0", "fire t as go : a -> b", "fire s as go : b -> a", "fire u as go : a -> b",
                  "fire v as go : a -> b"])
STILL = read_net(["place a 2", "place b 0", "fire t as go : a -> b", "fire idle : a + 2 b -> a + 2 b"])
# m has always one more than a and twice b.
IMPLIED = read_net(["place a 1", "place m 4", "place b 1", "fire t : a + m -> 0", "fire u as x : 0 -> 3 m + a + b",
                    "fire v : 2 m + b -> 0", "fire w : a -> a"])
# What fires never has two keys.
NEVER = read_net(["place key 1", "place room 0", "fire in as go : key -> room", "fire out as go : room -> key",
                  "fire steal as oh : 2 key -> 0"])
NEVER_BASIS = [(0, 2), (1, 1), (2, 0)]
# What comes to the post goes on as one letter and two stamps.
POST = read_net(["place post 2", "place bag 1", "place stamp 0", "fire write as w : bag -> 3 post + stamp",
                 "fire send : post -> bag + 2 stamp", "fire lick as l : stamp -> 0", "fire buy as b : 0 -> post"])

TURNS = [(TWINS, ("twin", "t", "u")), (STILL, ("still", "idle")), (IMPLIED, ("implied", "m", (("a", 1), ("b", 2)), 1)),
         (NEVER, ("never", "steal", NEVER_BASIS)), (POST, ("through", "send"))]
TEXTS = [
    ["place a 2", "place b 0", "fire t as go : a -> b", "fire s as go : b -> a", "fire v as go : a -> b"],
    ["place a 2", "place b 0", "fire t as go : a -> b"],
    ["place a 1", "place b 1", "fire t : a -> 0", "fire u as x : 0 -> a + b", "fire v : b -> 0", "fire w : a -> a"],
    ["place key 1", "place room 0", "fire in as go : key -> room", "fire out as go : room -> key"],
    ["place bag 3", "place stamp 4", "fire write as w : bag -> 3 bag + 7 stamp", "fire lick as l : stamp -> 0",
     "fire buy as b : 0 -> bag + 2 stamp"],
]
NO_TURNS = [thing for thing in STRANGE if thing is not None] + [
    None, ("twin",), ("twin", "t"), ("twin", "t", "u", "v"), ("twin", "t", None), ("twin", None, "u"), ["twin", "t", "u"],
    ("still",), ("still", None), ("still", True), ("still", "t", "u"), ("still", ["t"]), ("never", "t"), ("never", "t", ()),
    ("never", "t", None), ("never", ["t"], []), ("never", "t", [], []), ("through",), ("through", 1), ("through", "t", "u"),
    ("implied", "a"), ("implied", "a", ()), ("implied", "a", (), 0, 0), ("implied", None, (), 0), ("implied", "a", [], 0),
    ("implied", "a", None, 0), ("implied", "a", (), None), ("implied", "a", (), True), ("implied", "a", (), "0"),
    ("implied", "a", (("b", 0),), 0), ("implied", "a", (("b", -1),), 0), ("implied", "a", (("b", True),), 0),
    ("implied", "a", (("b", None),), 0), ("implied", "a", (["b", 1],), 0), ("implied", "a", (("b",),), 0),
    ("implied", "a", ("b", 1), 0), ("implied", "a", ((None, 1),), 0), ("implied", "a", (("b", 1, 1),), 0), ("fold", "t"),
    ("Twin", "t", "u"), (None, "t"), (["twin"], "t", "u"), ("turn", "t"), ("", "t"), ("implied", "a", (("b", "1"),), 0),
    ("fold", "a", (), 0), ("through", "a", (), 0), ("twin", "a", (), 0),
]


def without_place(net, name):
    return tuple([place for place in net[0] if place[0] != name])


def heap_back_to(net, turn, heap):
    """What heap_back tells; None where it is refused for a place."""
    try:
        return heap_back(net, turn, heap)
    except NoHeap as error:
        assert error.wrong[0] == "place"
        return None


def candidates(net):
    """All turns that reduced looks for, in its order, also those that may not be done."""
    places = [name for name, _ in net[0]]
    starts = dict(net[0])
    for place in places:
        others = [name for name in places if name != place]
        for many in range(3):
            for lot in itertools.combinations(others, many):
                for w in itertools.product(range(1, 4), repeat=many):
                    weights = tuple(zip(lot, w))
                    yield ("implied", place, weights, starts[place] - sum(v * starts[name] for name, v in weights))
    names = [firing[0] for firing in net[1]]
    yield from [("twin", one, other) for one, other in itertools.combinations(names, 2)]
    yield from [("through", name) for name in names]


def reduced_slowly(net):
    turns = []
    while True:
        turn = next((turn for turn in candidates(net) if turn_wrong(net, turn) is None), None)
        if turn is None:
            return (net, turns)
        turns.append(turn)
        net = turned(net, turn)


def turns_of(net):
    """Turns of all sorts that may be done."""
    found = [turn for turn in candidates(net) if turn_wrong(net, turn) is None]
    for firing in net[1]:
        takes = dict(firing[2])
        told = covered(net, tuple([takes.get(name, 0) for name, _ in net[0]]), most=50)
        found += [("still", firing[0])] + ([("never", firing[0], told[1])] if told[0] == "never" else [])
    return [turn for turn in found if turn_wrong(net, turn) is None]


def with_post(chance, net):
    """The net with one place more, on which one more firing passes on what the others give to it."""
    fires = [(name, label, takes, gives + ((("post", chance.randrange(1, 3)),) if chance.random() < 0.5 else ()))
             for name, label, takes, gives in net[1]]
    gives = tuple([(name, chance.randrange(1, 3)) for name, _ in net[0] if chance.random() < 0.6]) or ((net[0][0][0], 1),)
    fires.insert(chance.randrange(len(fires) + 1), ("send", "", (("post", 1),), gives))
    return (net[0] + (("post", chance.randrange(3)),), tuple(fires))


class TurnWrong(unittest.TestCase):

    def test_right_ones(self):
        for net, turn in TURNS:
            self.assertIsNone(turn_wrong(net=net, turn=turn))

    def test_turn(self):
        for net, _ in TURNS:
            for thing in NO_TURNS:
                self.assertEqual(turn_wrong(net, thing), ("turn",), thing)

    def test_names(self):
        for turn in [("twin", "x", "u"), ("twin", "t", "x"), ("twin", "u", "t"), ("twin", "t", "t"), ("twin", "a", "b"),
                     ("twin", "", "u"), ("still", "a"), ("still", "x"), ("never", "x", []), ("through", "a"), ("through", ""),
                     ("implied", "x", (), 0), ("implied", "t", (), 0), ("implied", "a", (("x", 1),), 0),
                     ("implied", "a", (("a", 1),), 0), ("implied", "a", (("b", 1), ("b", 1)), 0), ("implied", "b", (("t", 1),), 0)]:
            self.assertEqual(turn_wrong(TWINS, turn), ("names",), turn)
        for weights in [(("b", 2), ("a", 1)), (("a", 1), ("a", 1), ("b", 2)), (("a", 1), ("m", 1), ("b", 2))]:
            self.assertEqual(turn_wrong(IMPLIED, ("implied", "m", weights, 1)), ("names",))

    def test_why_of_twin(self):
        for text in ["fire u as og : a -> b", "fire u : a -> b", "fire u as go : 2 a -> b", "fire u as go : a -> 2 b",
                     "fire u as go : b -> a", "fire u as go : 0 -> b", "fire u as go : a -> 0"]:
            net = read_net(printed(TWINS)[:4] + [text])
            self.assertEqual(turn_wrong(net, ("twin", "t", "u")), ("why",), text)
        self.assertEqual(turn_wrong(TWINS, ("twin", "t", "s")), ("why",))
        self.assertIsNone(turn_wrong(TWINS, ("twin", "u", "v")))
        self.assertIsNone(turn_wrong(TWINS, ("twin", "t", "v")))

    def test_why_of_still(self):
        for text in ["fire idle as x : a -> a", "fire idle : a -> 0", "fire idle : a -> 2 a", "fire idle : a -> b",
                     "fire idle : a + b -> a", "fire idle : 0 -> a"]:
            net = read_net(printed(STILL)[:2] + [text])
            self.assertEqual(turn_wrong(net, ("still", "idle")), ("why",), text)
        self.assertIsNone(turn_wrong(read_net(printed(STILL)[:2] + ["fire idle : 0 -> 0"]), ("still", "idle")))

    def test_why_of_implied(self):
        def wrong(text, turn=TURNS[2][1]):
            return turn_wrong(read_net(text), turn)
        text = printed(IMPLIED)
        self.assertIsNone(wrong(text))
        for c in [0, 2, -1, 10 ** 12]:
            self.assertEqual(wrong(text, ("implied", "m", (("a", 1), ("b", 2)), c)), ("why",))
        for weights in [(), (("a", 1),), (("b", 2),), (("a", 1), ("b", 1)), (("a", 2), ("b", 2))]:
            starts = {"a": 1, "b": 1}
            c = 4 - sum(w * starts[name] for name, w in weights)
            self.assertEqual(wrong(text, ("implied", "m", weights, c)), ("why",))
        for k, row in [(1, "place m 5"), (1, "place m 3"), (0, "place a 2"), (2, "place b 0"), (3, "fire t : a + 2 m -> 0"),
                       (3, "fire t : a -> 0"), (4, "fire u as x : 0 -> 2 m + a + b"), (5, "fire v : 2 m + b -> m"),
                       (6, "fire w : a -> a + m")]:
            self.assertEqual(wrong(text[:k] + [row] + text[k + 1:]), ("why",), row)
        # What takes of m, and gives as much, takes at most what must be there: of w one more than a, so 2.
        for row, right in [("fire w : a + 2 m -> a + 2 m", True), ("fire w : a + 3 m -> a + 3 m", False), ("fire w : m -> m", True),
                           ("fire w : 2 m -> 2 m", False), ("fire w : b + 3 m -> b + 3 m", True),
                           ("fire w : 2 a + b + 6 m -> 2 a + b + 6 m", False), ("fire w : 2 a + b + 5 m -> 2 a + b + 5 m", True)]:
            self.assertEqual(wrong(text[:6] + [row]), None if right else ("why",), row)

    def test_implied_by_less_than_none(self):
        net = read_net(["place a 3", "place m 1", "fire t : 2 a + m -> 0", "fire u : 0 -> m + a"])
        self.assertEqual(turn_wrong(net, ("implied", "m", (("a", 1),), -2)), ("why",))
        net = read_net(["place a 3", "place m 1", "fire t : 3 a + m -> 2 a", "fire u : 0 -> m + a"])
        turn = ("implied", "m", (("a", 1),), -2)
        self.assertIsNone(turn_wrong(net, turn))
        self.assertEqual(heap_back(net, turn, (2,)), (2, 0))
        with self.assertRaises(NoHeap) as caught:
            heap_back(net, turn, (1,))
        self.assertEqual(caught.exception.wrong, ("place", 1))

    def test_why_of_never(self):
        for basis in [[], [(0, 2), (1, 1)], [(0, 2), (2, 0)], [(0, 1), (2, 0)], [(2,)], [None], [[2, 0]], [(2, 0), "x"], [(2, True)],
                      [(0, 0)], [(1, 0), (0, 1)]]:
            self.assertEqual(turn_wrong(NEVER, ("never", "steal", basis)), ("why",), basis)
        self.assertEqual(turn_wrong(NEVER, ("never", "in", NEVER_BASIS)), ("why",))
        # Another basis, or one with more in it, shows it, too.
        self.assertIsNone(turn_wrong(NEVER, ("never", "steal", NEVER_BASIS[::-1] + [(2, 5), (2, 0)])))
        net = read_net(["place key 1", "place room 0", "fire in as go : key -> room", "fire steal : 2 key -> room"])
        self.assertIsNone(turn_wrong(net, ("never", "steal", [(2, 0)])))
        net = read_net(["place key 2", "place room 0", "fire in as go : key -> room", "fire steal : 2 key -> room"])
        self.assertEqual(turn_wrong(net, ("never", "steal", [(2, 0)])), ("why",))

    def test_why_of_through(self):
        text = printed(POST)
        for row in ["fire send as s : post -> bag + 2 stamp", "fire send : 2 post -> bag", "fire send : post + bag -> stamp",
                    "fire send : post + bag -> bag + stamp", "fire send : post -> 0", "fire send : post -> post + stamp",
                    "fire send : 0 -> stamp", "fire send : post -> 2 post"]:
            self.assertEqual(turn_wrong(read_net(text[:4] + [row] + text[5:]), ("through", "send")), ("why",), row)
        for row in ["fire buy as b : post -> 0", "fire buy : post -> bag + 2 stamp", "fire buy as b : post -> post",
                    "fire buy : 2 post + bag -> bag"]:
            self.assertEqual(turn_wrong(read_net(text[:6] + [row]), ("through", "send")), ("why",), row)
            self.assertEqual(turn_wrong(read_net(text[:3] + [row] + text[3:6]), ("through", "send")), ("why",), row)
        for name in ["write", "lick", "buy"]:
            self.assertEqual(turn_wrong(POST, ("through", name)), ("why",))

    def test_great(self):
        much = 999999999
        net = ((("p", 2), ("a", 1)), (("f", "", (("p", 1),), (("a", much // 2),)),))
        self.assertIsNone(turn_wrong(net, ("through", "f")))
        self.assertEqual(turn_wrong(((("p", 2), ("a", 2)), net[1]), ("through", "f")), ("great",))
        net = ((("p", 0), ("a", 0)), (("g", "", (), (("p", 3), ("a", 1))), ("f", "", (("p", 1),), (("a", much // 3),))))
        self.assertEqual(turn_wrong(net, ("through", "f")), ("great",))
        self.assertIsNone(turn_wrong((net[0], (("g", "", (), (("p", 3),)), net[1][1])), ("through", "f")))
        # A net has a place.
        net = ((("p", 3),), (("t", "", (("p", 1),), (("p", 1),)),))
        self.assertEqual(turn_wrong(net, ("implied", "p", (), 3)), ("great",))
        self.assertEqual(turn_wrong(net, ("implied", "p", (), 2)), ("why",))
        self.assertEqual(reduced(net), (net, []))

    def test_no_net(self):
        asked = [turn_wrong, turned, lambda net, turn: reduced(net)]
        asked += [lambda net, turn, ask=ask: ask(net, turn, None) for ask in (heap_led, heap_back, row_led, row_back)]
        asked += [lambda net, turn, ask=ask: ask(net, [turn], None)
                  for ask in (heap_led_by, heap_back_by, row_led_by, row_back_by)]
        for ask in asked:
            for thing, wrong in NO_NETS:
                with self.assertRaises(NoNet) as caught:
                    ask(thing, ("still", "x"))
                self.assertEqual(caught.exception.wrong, wrong)


class Turned(unittest.TestCase):

    def test_each_sort(self):
        for (net, turn), text in zip(TURNS, TEXTS):
            self.assertEqual(turned(net=net, turn=turn), read_net(text))

    def test_what_stays_is_in_its_order(self):
        net = read_net(["place z 0", "place p 1", "place a 0", "fire f : p -> z + 3 a", "fire g as x : z -> 2 p + a",
                        "fire h : a -> z + p"])
        told = read_net(["place z 1", "place a 3", "fire g as x : z -> 2 z + 7 a", "fire h : a -> 2 z + 3 a"])
        self.assertEqual(turned(net, ("through", "f")), told)

    def test_no_turn(self):
        for ask in [turned, lambda net, turn: heap_led(net, turn, None), lambda net, turn: heap_back(net, turn, None),
                    lambda net, turn: row_led(net, turn, ["x"]), lambda net, turn: row_back(net, turn, ["x"])]:
            for turn, wrong in [(None, ("turn",)), (("twin", "u", "t"), ("names",)), (("twin", "t", "s"), ("why",))]:
                with self.assertRaises(NoTurn) as caught:
                    ask(TWINS, turn)
                self.assertEqual(caught.exception.wrong, wrong)
        with self.assertRaises(NoTurn) as caught:
            turned(((("p", 3),), ()), ("implied", "p", (), 3))
        self.assertEqual(caught.exception.wrong, ("great",))


class Led(unittest.TestCase):

    def test_heaps(self):
        for (net, turn), heap, behind in zip(TURNS, [(1, 1), (1, 1), (0, 3, 1), (0, 1), (2, 1, 5)],
                                             [(1, 1), (1, 1), (0, 1), (0, 1), (3, 9)]):
            self.assertEqual(heap_led(net=net, turn=turn, heap=heap), behind)
        for (net, turn), heap, ahead in zip(TURNS, [(1, 1), (1, 1), (0, 1), (0, 1), (3, 9)],
                                            [(1, 1), (1, 1), (0, 3, 1), (0, 1), (0, 3, 9)]):
            self.assertEqual(heap_back(net=net, turn=turn, heap=heap), ahead)

    def test_rows(self):
        rows = [["u", "s", "v", "u", "t"], ["idle", "t", "idle"], ["u", "t", "w"], ["in", "steal", "out"],
                ["buy", "send", "write", "send", "send"]]
        behind = [["t", "s", "v", "t", "t"], ["t"], ["u", "t", "w"], ["in", "out"], ["buy", "write"]]
        for (net, turn), row, led in zip(TURNS, rows, behind):
            self.assertEqual(row_led(net=net, turn=turn, row=row), led)
            self.assertEqual(row_led(net, turn, []), [])
        for (net, turn), row in list(zip(TURNS, behind))[:4]:
            self.assertEqual(row_back(net=net, turn=turn, row=row), row)
            self.assertEqual(row_back(net, turn, []), [])
        # As often as the start says first, then behind each firing as often as it gives.
        self.assertEqual(row_back(POST, ("through", "send"), ["buy", "lick", "write"]),
                         ["send", "send", "buy", "send", "lick", "write", "send", "send", "send"])
        for start in range(3):
            net = ((("post", start), *POST[0][1:]), POST[1])
            self.assertEqual(row_back(net, ("through", "send"), []), ["send"] * start)

    def test_a_firing_called_as_the_place(self):
        net = read_net(["place m 2", "place a 1", "fire m as x : m + a -> m + a", "fire a : a -> 0"])
        turn = ("implied", "m", (), 2)
        for ask in [row_led, row_back]:
            self.assertEqual(ask(net, turn, ["m", "a", "m"]), ["m", "a", "m"])

    def test_no_heap(self):
        for (net, turn), many in zip(TURNS, [2, 2, 3, 2, 3]):
            for ask, size in [(heap_led, many), (heap_back, many - int(turn[0] in ("implied", "through")))]:
                for heap, wrong in [(None, ("heap",)), ((0,) * (size + 1), ("heap",)), ((0,) * (size - 1), ("heap",)),
                                    ((0,) * (size - 1) + (-1,), ("place", size - 1)), ((True,) * size, ("place", 0)),
                                    ([0] * size, ("heap",))]:
                    with self.assertRaises(NoHeap) as caught:
                        ask(net, turn, heap)
                    self.assertEqual(caught.exception.wrong, wrong)

    def test_no_firing(self):
        for net, turn in TURNS:
            for names in ["x", "", "a", None, True, ["t"]]:
                for ask in [row_led, row_back]:
                    with self.assertRaises(NoFiring) as caught:
                        ask(net, turn, [net[1][0][0], names, "y"])
                    self.assertEqual(caught.exception.name, names)
        for net, turn in TURNS[:2] + TURNS[3:]:
            gone_one = turn[2] if turn[0] == "twin" else turn[1]
            self.assertIn(gone_one, [firing[0] for firing in net[1]])
            row_led(net, turn, [gone_one])
            with self.assertRaises(NoFiring) as caught:
                row_back(net, turn, [gone_one])
            self.assertEqual(caught.exception.name, gone_one)

    def test_rows_needn_t_be_gone(self):
        self.assertEqual(row_led(POST, ("through", "send"), ["lick"] * 9), ["lick"] * 9)

    def test_told_lists_are_new(self):
        for net, turn in TURNS:
            row = [net[1][0][0]]
            for ask in [row_led, row_back]:
                self.assertTrue(is_deeply_fresh(lambda: ask(net, turn, row)))
            for ask in [row_led_by, row_back_by]:
                for turns in [[], [turn]]:
                    self.assertTrue(is_deeply_fresh(lambda: ask(net, turns, row)))
            self.assertEqual(row, [net[1][0][0]])

    def test_where_rows_lead(self):
        chance = random.Random(63)
        done = dict.fromkeys(["twin", "still", "implied", "never", "through"], 0)
        for _ in range(700):
            net = net_by_chance(chance, 3, 4, 1, 2, 2)
            if chance.random() < 0.5:
                net = with_post(chance, net)
            try:
                heaps, steps = reach(net, most=60)
                turns = turns_of(net)
            except TooGreat:
                continue
            for turn in turns[:2] + turns[-2:]:
                done[turn[0]] += 1
                self.leads_as_told(net, turn, heaps, steps, chance)
        for word, many in done.items():
            self.assertGreater(many, 20, word)

    def leads_as_told(self, net, turn, heaps, steps, chance):
        behind = turned(net, turn)
        others, other_steps = reach(behind, most=200)
        row, at = [], 0
        while len(row) < 12 and steps[at]:
            name, at = chance.choice(steps[at])
            row.append(name)
            self.assertEqual(gone(behind, start_heap(behind), row_led(net, turn, row)), heap_led(net, turn, heaps[at]))
            self.assertEqual(words(behind, row_led(net, turn, row)), words(net, row))
        row, at = [], 0
        while len(row) < 12 and other_steps[at]:
            name, at = chance.choice(other_steps[at])
            row.append(name)
            back = row_back(net, turn, row)
            self.assertEqual(gone(net, start_heap(net), back), heap_back(net, turn, others[at]))
            self.assertEqual(words(net, back), words(behind, row))
        led = {heap_led(net, turn, heap) for heap in heaps}
        self.assertEqual(led, set(others))
        self.assertLessEqual({heap_back(net, turn, other) for other in others}, set(heaps))
        dead = {heap for heap, leads in zip(heaps, steps) if not leads}
        dead_behind = {heap for heap, leads in zip(others, other_steps) if not leads}
        self.assertLessEqual({heap_led(net, turn, heap) for heap in dead}, dead_behind)
        if turn[0] != "still":
            self.assertLessEqual({heap_back(net, turn, heap) for heap in dead_behind}, dead)
        if turn[0] in ("twin", "implied", "never"):
            self.assertEqual(len(heaps), len(others))


class Reduced(unittest.TestCase):

    def test_in_the_order_told(self):
        self.assertEqual(reduced(net=DOOR)[1], [("implied", "idle", (("key", 1), ("lost", 1)), 0), ("through", "leave")])
        self.assertEqual(reduced(MILL)[1], [("through", "end"), ("implied", "idle", (), 2)])
        self.assertEqual(reduced(TWINS)[1], [("twin", "t", "u"), ("twin", "t", "v")])
        self.assertEqual(reduced(POST)[1], [("through", "send")])

    def test_nothing_to_do(self):
        for net in [WELL, STILL, NEVER]:
            told = reduced(net)
            self.assertNotIn("still", [turn[0] for turn in told[1]])
            self.assertNotIn("never", [turn[0] for turn in told[1]])
        net = read_net(["place a 1", "place b 0", "fire t as x : a -> 2 b", "fire u : a + b -> 0"])
        self.assertEqual(reduced(net), (net, []))

    def test_weights(self):
        def weights(rows):
            return reduced(read_net(rows))[1][0]
        self.assertEqual(weights(["place p 5", "place q 1", "fire t as x : q + 3 p -> 0"]), ("implied", "p", (("q", 3),), 2))
        # Of no place ahead of one, of one ahead of two; of one the first, of two the first of all that may be.
        self.assertEqual(weights(["place p 5", "place q 1", "fire t as x : 0 -> q"]), ("implied", "p", (), 5))
        self.assertEqual(weights(["place p 5", "place q 1", "place r 1", "fire t as x : 0 -> 2 p + q + 2 r"]),
                         ("implied", "p", (("q", 2),), 3))
        rows = ["place p 9", "place q 1", "place r 1", "place s 3", "fire t as x : p + q -> 0", "fire u as x : 2 p + r -> 0",
                "fire v as x : 0 -> 2 s + q + r", "fire w as x : 3 p -> 3 p"]
        self.assertEqual(reduced(read_net([row for row in rows if " v " not in row and " w " not in row]))[1][0],
                         ("implied", "p", (("q", 1), ("r", 2)), 6))
        self.assertEqual(weights(["place p 1", "place q 1", "place r 1", "fire t as x : 0 -> p + q", "fire u as x : 0 -> p + r",
                                  "fire v as y : 0 -> 2 p + q + r"]), ("implied", "p", (("q", 1), ("r", 1)), -1))
        # Not of weight 4, nor of three places.
        for rows in [["place p 4", "place q 1", "fire t as x : q + 4 p -> 4 p", "fire u as x : 4 p -> 0"],
                     ["place p 3", "place q 1", "place r 1", "place s 1", "fire t as x : p + q -> 0", "fire u as x : p + r -> 0",
                      "fire v as x : p + s -> 0"]]:
            self.assertNotEqual(reduced(read_net(rows))[1][:1], [("implied", "p", (("q", 1), ("r", 1), ("s", 1)), 0)])

    def test_implied_twin_through(self):
        net = read_net(["place a 1", "place p 0", "place q 2", "place b 0", "fire f : p -> b", "fire t as x : a -> p",
                        "fire u as x : a -> p", "fire v as y : 2 b -> a"])
        self.assertEqual(reduced(net)[1], [("implied", "q", (), 2), ("twin", "t", "u"), ("through", "f")])

    def test_again_from_the_first_on(self):
        # Only where the post is gone does one place follow from another.
        told = reduced(read_net(["place post 0", "place a 0", "place b 0", "fire write as w : 0 -> post + b",
                                 "fire send : post -> 2 a", "fire read as r : 2 a + b -> 0"]))
        self.assertEqual(told[1], [("through", "send"), ("implied", "a", (("b", 2),), 0)])

    def test_as_the_turns_tell(self):
        chance = random.Random(64)
        many = 0
        for _ in range(250):
            net = net_by_chance(chance, 4, 4, 2, 2, 2)
            if chance.random() < 0.5:
                net = with_post(chance, net)
            told = reduced(net)
            self.assertEqual(told, reduced_slowly(net))
            self.assertIsNone(net_wrong(told[0]))
            many += len(told[1]) > 2
            self.assertTrue(is_deeply_fresh(lambda: reduced(net)))
        self.assertGreater(many, 20)

    def test_heaps_agree(self):
        chance = random.Random(65)
        for _ in range(200):
            net = net_by_chance(chance, 4, 4, 1, 2, 2)
            try:
                heaps, steps = reach(net, most=100)
            except TooGreat:
                continue
            small, turns = reduced(net)
            others = reach(small, most=300)[0]
            self.assertEqual({heap_led_by(net, turns, heap) for heap in heaps}, set(others))
            for other in others:
                self.assertIn(heap_back_by(net, turns, other), heaps)
            row, at = [], 0
            while len(row) < 10 and steps[at]:
                name, at = chance.choice(steps[at])
                row.append(name)
            led = row_led_by(net, turns, row)
            heap = gone(small, start_heap(small), led)
            self.assertEqual(heap, heap_led_by(net, turns, heaps[at]))
            back = row_back_by(net, turns, led)
            self.assertEqual(gone(net, start_heap(net), back), heap_back_by(net, turns, heap))
            self.assertEqual(words(net, back), words(net, row))


class By(unittest.TestCase):

    def test_no_turns(self):
        self.assertEqual(heap_led_by(net=DOOR, turns=[], heap=(0, 0, 1, 0)), (0, 0, 1, 0))
        self.assertEqual(heap_back_by(net=DOOR, turns=[], heap=(0, 0, 1, 0)), (0, 0, 1, 0))
        row = ["enter", "lose"]
        for ask in [row_led_by, row_back_by]:
            self.assertEqual(ask(net=DOOR, turns=[], row=row), row)
            self.assertIsNot(ask(DOOR, [], row), row)

    def test_one_behind_the_other(self):
        small, turns = reduced(DOOR)
        self.assertEqual(small[0], (("key", 1), ("lost", 0)))
        self.assertEqual(heap_led_by(DOOR, turns, (0, 0, 1, 0)), (1, 0))
        self.assertEqual(heap_back_by(DOOR, turns, (1, 0)), (1, 1, 0, 0))
        self.assertEqual(heap_back_by(DOOR, turns, (0, 1)), (1, 0, 0, 1))
        self.assertEqual(row_led_by(DOOR, turns, ["enter", "leave", "lose"]), ["enter", "lose"])
        self.assertEqual(row_back_by(DOOR, turns, ["enter", "lose"]), ["enter", "leave", "lose"])

    def test_one_through_behind_the_other(self):
        net = read_net(["place p 1", "place q 1", "place a 0", "fire first : p -> 2 q", "fire then : q -> a",
                        "fire more as x : a -> 2 p + q"])
        for turns, row in [([("through", "first"), ("through", "then")], ["first", "then", "then", "then"]),
                           ([("through", "then"), ("through", "first")], ["then", "first", "then", "then"])]:
            back = row_back_by(net, turns, [])
            self.assertEqual(gone(net, start_heap(net), back), heap_back_by(net, turns, (3,)))
            self.assertEqual(back, row)
            self.assertEqual(row_led_by(net, turns, [*row, "more"]), ["more"])
            back = row_back_by(net, turns, ["more"])
            self.assertEqual(gone(net, start_heap(net), back), (0, 0, 7))

    def test_no_turn(self):
        turns = [("implied", "idle", (("key", 1), ("lost", 1)), 0), ("through", "leave")]
        asked = [heap_led_by, heap_back_by, row_led_by, row_back_by]
        for ask in asked:
            for told, wrong in [([None], (0, ("turn",))), (turns + [None], (2, ("turn",))), (turns + [turns[1]], (2, ("names",))),
                                (turns[:1] * 2, (1, ("names",))), ([turns[0], ("through", "enter")], (1, ("why",))),
                                ([("still", "enter"), None], (0, ("why",)))]:
                # Ahead of what is no heap, no row of names.
                with self.assertRaises(NoTurn) as caught:
                    ask(DOOR, told, ["x"])
                self.assertEqual(caught.exception.wrong, wrong)

    def test_no_heap_no_firing(self):
        turns = reduced(DOOR)[1]
        for heap, wrong in [((0, 0), ("heap",)), ((0, 0, -1, 0), ("place", 2)), (None, ("heap",))]:
            with self.assertRaises(NoHeap) as caught:
                heap_led_by(DOOR, turns, heap)
            self.assertEqual(caught.exception.wrong, wrong)
        for heap, wrong in [((0, 0, 0, 0), ("heap",)), ((0, True), ("place", 1)), (None, ("heap",))]:
            with self.assertRaises(NoHeap) as caught:
                heap_back_by(DOOR, turns, heap)
            self.assertEqual(caught.exception.wrong, wrong)
        with self.assertRaises(NoFiring) as caught:
            row_led_by(DOOR, turns, ["enter", "x"])
        self.assertEqual(caught.exception.name, "x")
        self.assertEqual(row_led_by(DOOR, turns, ["leave"]), [])
        with self.assertRaises(NoFiring) as caught:
            row_back_by(DOOR, turns, ["enter", "leave"])
        self.assertEqual(caught.exception.name, "leave")

    def test_no_heap_of_a_turn_between(self):
        # Behind the second turn back there is too little for the first.
        net = read_net(["place m 1", "place q 3", "place a 3", "place b 0", "fire t as x : m + 3 a -> 2 a + b",
                        "fire u as y : b -> m + a"])
        turns = [("implied", "q", (), 3), ("implied", "m", (("a", 1),), -2)]
        self.assertEqual(heap_back_by(net, turns, (2, 1)), (0, 3, 2, 1))
        with self.assertRaises(NoHeap) as caught:
            heap_back_by(net, turns, (1, 1))
        self.assertEqual(caught.exception.wrong, ("place", 0))
        turns = [turns[1], turns[0]]
        with self.assertRaises(NoHeap) as caught:
            heap_back_by(net, turns, (1, 1))
        self.assertEqual(caught.exception.wrong, ("place", 0))

    def test_what_is_handed_in_stays(self):
        turns = [("never", "steal", [(0, 2), (1, 1), (2, 0)])]
        kept = copy.deepcopy(turns)
        row = ["in", "steal"]
        heap_led_by(NEVER, turns, (1, 0))
        heap_back_by(NEVER, turns, (1, 0))
        row_led_by(NEVER, turns, row)
        row_back_by(NEVER, turns, ["in"])
        turn_wrong(NEVER, turns[0])
        self.assertEqual((turns, row), (kept, ["in", "steal"]))

    def test_the_turned_net_can_be_asked_on(self):
        for net, turn in TURNS:
            behind = turned(net, turn)
            for name in can(behind, start_heap(behind)):
                fired(behind, start_heap(behind), name)
        with self.assertRaises(Stuck):
            fired(turned(*TURNS[0]), (0, 0), "t")


if __name__ == "__main__":
    unittest.main()
