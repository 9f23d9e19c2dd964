import copy
import itertools
import random
import unittest

import slowly
from samples import DOOR, MILL, NO_NETS, STRANGE, is_deeply_fresh, machines
from tokenfold.branches import Branches
from tokenfold.cuts import dead_cuts, events_of, unfolding_wrong
from tokenfold.errors import NoHeap, NoNet, NotPlain, TooGreat
from tokenfold.reach import dead, reach
from tokenfold.texts import read_net
from tokenfold.unfolding import heap_of, plain_row, unfold

# Two who do something side by side, or one of them alone does both; then all begins anew.
SIDES = read_net(["place a 1", "place b 1", "place c 0", "place d 0", "fire both : a + b -> c + d", "fire one : a -> c",
                  "fire two : b -> d", "fire anew : c + d -> a + b"])
DOOR_END = (1, 0, 0, 1)
CONDITIONS = [("a", None), ("b", None), ("c", 0), ("d", 0), ("c", 1), ("d", 2), ("a", 3), ("b", 3), ("a", 4), ("b", 4)]
EVENTS = [("both", (0, 1), (2, 3), False), ("one", (0,), (4,), False), ("two", (1,), (5,), False),
          ("anew", (2, 3), (6, 7), True), ("anew", (4, 5), (8, 9), True)]
# Where tokens are lost, so that events give nothing.
LOST = read_net(["place a 1", "place b 1", "fire t : a -> 0", "fire u : b -> 0", "fire v : a + b -> a"])


def told():
    return (list(CONDITIONS), list(EVENTS))


def with_event(k, event, conditions=CONDITIONS):
    """The unfolding of SIDES with another event in the stead of the k-th."""
    return (list(conditions), [*EVENTS[:k], event, *EVENTS[k + 1:]])


def reordered(net, unfolding, order):
    """The unfolding with its events in another order, its conditions numbered anew."""
    conditions, events = unfolding
    numbers = {old: new for new, old in enumerate(order)}
    first = [(place, maker) for place, maker in conditions if maker is None]
    renamed = {k: k for k in range(len(first))}
    moved, fresh = list(first), []
    for number in order:
        name, takes, gives, cut = events[number]
        for condition in gives:
            renamed[condition] = len(moved)
            moved.append((conditions[condition][0], numbers[number]))
        fresh.append((name, takes, gives, cut))
    told = [(name, tuple([renamed[c] for c in takes]), tuple([renamed[c] for c in gives]), cut) for name, takes, gives, cut in fresh]
    return (moved, told)


class EventsOf(unittest.TestCase):

    def test_heaps_that_are_come_to(self):
        self.assertEqual(events_of(SIDES, told(), (1, 1, 0, 0)), [])
        self.assertEqual(events_of(net=SIDES, unfolding=told(), heap=(0, 1, 1, 0)), [1])
        self.assertIn(events_of(SIDES, told(), (0, 0, 1, 1)), [[0], [1, 2]])
        self.assertEqual(events_of(DOOR, unfold(DOOR), DOOR_END), [1])

    def test_others(self):
        for heap in [(0, 0, 0, 0), (1, 1, 1, 0), (2, 0, 0, 0), (1, 1, 1, 1), (0, 1, 0, 1)]:
            self.assertIsNone(events_of(SIDES, told(), heap))

    def test_events_that_give_nothing(self):
        unfolding = unfold(LOST)
        for heap in itertools.product(range(2), repeat=2):
            events = events_of(LOST, unfolding, heap)
            self.assertEqual(heap_of(LOST, unfolding, events), heap)

    def test_none_cut(self):
        # The start's own heap is that of no events; a cut event's heap is that of others.
        net = read_net(["place a 1", "place b 0", "place c 0", "fire t : a -> b", "fire u : a -> b", "fire v : b -> c"])
        self.assertEqual(events_of(net, unfold(net), (0, 1, 0)), [0])
        self.assertEqual(events_of(net, unfold(net), (0, 0, 1)), [0, 2])

    def test_agrees_with_reach(self):
        chance = random.Random(53)
        for _ in range(120):
            net = machines(chance)
            unfolding = unfold(net)
            heaps = reach(net)[0]
            for heap in heaps:
                events = events_of(net, unfolding, heap)
                self.assertEqual(events, sorted(events))
                self.assertEqual(heap_of(net, unfolding, events), heap)
                self.assertFalse(any(unfolding[1][number][3] for number in events))
            others = [heap for heap in itertools.product(range(2), repeat=len(net[0])) if heap not in heaps]
            for heap in chance.sample(others, min(len(others), 5)):
                self.assertIsNone(events_of(net, unfolding, heap))

    def test_refused(self):
        for thing, wrong in NO_NETS:
            for ask in [lambda net: events_of(net, None, None), lambda net: dead_cuts(net, None),
                        lambda net: unfolding_wrong(net, None)]:
                with self.assertRaises(NoNet) as caught:
                    ask(thing)
                self.assertEqual(caught.exception.wrong, wrong)
        for heap, wrong in [(None, ("heap",)), ((1, 1, 0), ("heap",)), ([1, 1, 0, 0], ("heap",)), ((1, True, 0, 0), ("place", 1)),
                            ((1, 1, -1, 0), ("place", 2))]:
            with self.assertRaises(NoHeap) as caught:
                events_of(SIDES, told(), heap)
            self.assertEqual(caught.exception.wrong, wrong)

    def test_told_lists_are_new(self):
        unfolding = told()
        self.assertTrue(is_deeply_fresh(lambda: events_of(SIDES, unfolding, (0, 1, 1, 0))))
        self.assertTrue(is_deeply_fresh(lambda: dead_cuts(DOOR, unfold(DOOR))))
        self.assertEqual(unfolding, told())


class DeadCuts(unittest.TestCase):

    def test_sorted_each_once(self):
        self.assertEqual(dead_cuts(DOOR, unfold(DOOR)), [DOOR_END])
        self.assertEqual(dead_cuts(SIDES, told()), [])
        self.assertEqual(dead_cuts(net=LOST, unfolding=unfold(LOST)), [(0, 0)])
        net = read_net(["place a 1", "place b 0", "place c 0", "place d 1", "fire t : a -> b", "fire u : a -> c",
                        "fire v : a + d -> c + d"])
        self.assertEqual(dead_cuts(net, unfold(net)), [(0, 0, 1, 1), (0, 1, 0, 1)])
        self.assertEqual(dead_cuts(((("a", 1), ("b", 0)), ()), ([("a", None)], [])), [(1, 0)])

    def test_agrees_with_dead(self):
        chance = random.Random(55)
        some = 0
        for _ in range(200):
            net = machines(chance)
            heaps = dead_cuts(net, unfold(net))
            some += len(heaps) > 1
            self.assertEqual(heaps, sorted(dead(net)))
        self.assertGreater(some, 10)

    def test_by_the_unfolding_alone(self):
        # An event that is cut takes, too: what it can be taken from isn't dead.
        unfolding = ([("a", None), ("b", 0), ("a", 1)], [("t", (0,), (1,), False), ("u", (1,), (2,), True)])
        net = ((("a", 1), ("b", 0)), (("t", "", (("a", 1),), (("b", 1),)), ("u", "", (("b", 1),), (("a", 1),))))
        self.assertEqual(dead_cuts(net, unfolding), [])
        self.assertEqual(dead_cuts(net, (unfolding[0][:2], unfolding[1][:1])), [(0, 1)])
        self.assertEqual(dead_cuts(net, (unfolding[0][:1], [])), [(1, 0)])


class UnfoldingWrong(unittest.TestCase):

    def wrong(self, thing, net=SIDES):
        return unfolding_wrong(net, thing)

    def test_unfolds_own(self):
        self.assertEqual(unfold(SIDES), told())
        for net in [SIDES, DOOR, LOST, ((("a", 1),), ())]:
            self.assertIsNone(unfolding_wrong(net=net, thing=unfold(net)))
        chance = random.Random(56)
        for _ in range(150):
            net = machines(chance)
            self.assertIsNone(self.wrong(unfold(net), net))

    def test_form(self):
        things = [None, (), told()[0], list(told()), (*told(), []), (CONDITIONS, tuple(EVENTS)), (tuple(CONDITIONS), EVENTS),
                  ([None], []), ([("a",)], []), ([["a", None]], []), ([("x", None)], []), ([(None, None)], []), ([(["a"], None)], []),
                  ([("a", None, None)], []), ([("a", 0)], []), ([("a", -1)], EVENTS), ([("a", 5)], EVENTS), ([("a", True)], EVENTS),
                  ([("a", "0")], EVENTS), ([("both", None)], [])]
        for thing in [*STRANGE, *things]:
            self.assertEqual(self.wrong(thing), ("form",), thing)
        events = [None, ("both", (0, 1), (2, 3)), ["both", (0, 1), (2, 3), False], ("a", (0, 1), (2, 3), False),
                  ("x", (0, 1), (2, 3), False), (None, (0, 1), (2, 3), False), (["both"], (0, 1), (2, 3), False),
                  ("both", [0, 1], (2, 3), False), ("both", (0, 1), [2, 3], False), ("both", (0, 10), (2, 3), False),
                  ("both", (0, -1), (2, 3), False), ("both", (0, True), (2, 3), False), ("both", (0, 1), (2, 10), False),
                  ("both", (0, 1), (2, "3"), False), ("both", (0, 1), (2, None), False), ("both", None, (2, 3), False),
                  ("both", (0, 1), (2, 3), 0), ("both", (0, 1), (2, 3), None), ("both", (0, 1), (2, 3), 1),
                  ("both", (0, 1), (2, 3), False, False)]
        for event in events:
            self.assertEqual(self.wrong(with_event(0, event)), ("form",), event)
            # Ahead of a condition that lacks.
            self.assertEqual(self.wrong(with_event(4, event, CONDITIONS[1:] + CONDITIONS[:1])), ("form",), event)

    def test_condition(self):
        for k in range(10):
            left_out = CONDITIONS[:k] + CONDITIONS[k + 1:]
            # Numbers of conditions that there are no more would be no form.
            events = [(name, (), (), cut) for name, _, _, cut in EVENTS]
            self.assertEqual(self.wrong((left_out, events)), ("condition", k))
            twice = CONDITIONS[:k] + CONDITIONS[k:k + 1] + CONDITIONS[k:]
            self.assertEqual(self.wrong((twice, EVENTS)), ("condition", k + 1))
            self.assertEqual(self.wrong((CONDITIONS[:k] + [("c", None)] + CONDITIONS[k + 1:], EVENTS)), ("condition", k))
        for k in range(9):
            exchanged = CONDITIONS[:k] + [CONDITIONS[k + 1], CONDITIONS[k]] + CONDITIONS[k + 2:]
            self.assertEqual(self.wrong((exchanged, EVENTS)), ("condition", k))
        self.assertEqual(self.wrong(([], [])), ("condition", 0))
        self.assertEqual(self.wrong((CONDITIONS[:2], [])), ("lacks", "both", (0, 1)))
        self.assertEqual(self.wrong((CONDITIONS + [("a", None)], EVENTS)), ("condition", 10))
        # By the firings alone: what the events tell of what they give comes behind.
        self.assertEqual(self.wrong(with_event(4, ("one", (4, 5), (8, 9), True))), ("condition", 8))
        self.assertEqual(self.wrong(with_event(0, ("both", (0, 1), (), False), CONDITIONS[:4])), ("form",))

    def test_event(self):
        for k, event in [(0, ("both", (1, 0), (2, 3), False)), (0, ("both", (0,), (2, 3), False)), (0, ("both", (0, 0), (2, 3), False)),
                         (0, ("both", (0, 1, 1), (2, 3), False)), (0, ("both", (), (2, 3), False)), (0, ("both", (0, 1), (3, 2), False)),
                         (0, ("both", (0, 1), (2,), False)), (0, ("both", (0, 1), (), False)), (0, ("both", (0, 1), (4, 5), False)),
                         (0, ("both", (0, 1), (2, 3, 3), False)), (1, ("one", (1,), (4,), False)), (1, ("one", (2,), (4,), False)),
                         (0, ("both", (8, 9), (2, 3), False)), (0, ("both", (0, 9), (2, 3), False)), (4, ("anew", (4, 3), (8, 9), True)),
                         (4, ("anew", (2, 5), (8, 9), True)), (4, ("anew", (2, 3), (8, 9), True)), (4, ("anew", (5, 4), (8, 9), True))]:
            self.assertEqual(self.wrong(with_event(k, event)), ("event", k), event)

    def test_the_first_event(self):
        conditions, events = with_event(1, ("one", (1,), (4,), False))
        events[0] = ("both", (1, 0), (2, 3), False)
        self.assertEqual(self.wrong((conditions, events)), ("event", 0))

    def test_what_a_cut_event_made(self):
        conditions = CONDITIONS + [("c", 5)]
        self.assertEqual(self.wrong((conditions, EVENTS + [("one", (6,), (10,), False)])), ("event", 5))
        self.assertEqual(self.wrong((conditions, EVENTS + [("one", (8,), (10,), True)])), ("event", 5))
        self.assertEqual(self.wrong((conditions, EVENTS + [("one", (0,), (10,), False)])), ("event", 5))
        # Where it isn't told cut it may be taken, and then so must all.
        free = EVENTS[:3] + [("anew", (2, 3), (6, 7), False)] + EVENTS[4:]
        self.assertEqual(self.wrong((CONDITIONS, free)), ("lacks", "both", (6, 7)))
        self.assertEqual(self.wrong((conditions, free + [("one", (6,), (10,), False)])), ("lacks", "both", (6, 7)))

    def test_takes_stand_together(self):
        net = read_net(["place a 1", "place b 0", "place c 0", "fire t : a -> b", "fire u : a -> c", "fire v : b + c -> a"])
        conditions = [("a", None), ("b", 0), ("c", 1)]
        events = [("t", (0,), (1,), False), ("u", (0,), (2,), False)]
        self.assertEqual(unfold(net), (conditions, events))
        self.assertEqual(self.wrong((conditions + [("a", 2)], events + [("v", (1, 2), (3,), False)]), net), ("event", 2))
        self.assertEqual(self.wrong((conditions + [("a", 2)], events + [("v", (0, 2), (3,), False)]), net), ("event", 2))
        # One behind the other do not stand together either.
        chain = read_net(["place a 1", "place b 0", "place c 0", "fire t : a -> b", "fire u : a + b -> c"])
        conditions = [("a", None), ("b", 0), ("c", 1)]
        self.assertEqual(self.wrong((conditions, [("t", (0,), (1,), False), ("u", (0, 1), (2,), False)]), chain), ("event", 1))

    def test_events_in_another_order(self):
        let_by = 0
        for order in itertools.permutations(range(5)):
            wrong = self.wrong(reordered(SIDES, told(), order))
            places = {number: k for k, number in enumerate(order)}
            if places[3] < places[0] or places[4] < max(places[1], places[2]):
                self.assertEqual(wrong[0], "event", order)
            else:
                # The last one is cut by the start: so it doesn't matter where it stands.
                self.assertIsNone(wrong, order)
                let_by += 1
        self.assertGreater(let_by, 5)

    def test_what_pasts_are_in_the_order(self):
        chance = random.Random(59)
        for net in [SIDES] * 20 + [machines(chance) for _ in range(100)]:
            unfolding = unfold(net)
            if len(unfolding[1]) > 9:
                continue
            order, left = [], list(range(len(unfolding[1])))
            while left:
                ready = [k for k in left if slowly.past(unfolding, k) <= {k, *order}]
                order.append(chance.choice(ready))
                left.remove(order[-1])
            unfolding = reordered(net, unfolding, order)
            branches = Branches(net)
            numbers = {firing[0]: k for k, firing in enumerate(net[1])}
            for k, (name, takes, _, cut) in enumerate(unfolding[1]):
                self.assertEqual(branches.rank_of(numbers[name], takes), slowly.rank(net, unfolding, slowly.past(unfolding, k)))
                branches.put_event(numbers[name], takes, cut)

    def test_cut(self):
        for k in range(3):
            name, takes, gives, _ = EVENTS[k]
            changed = with_event(k, (name, takes, gives, True))
            # What is cut isn't taken from; the word of the event that does comes first.
            self.assertEqual(self.wrong(changed), ("event", 3 if k == 0 else 4))
        net = read_net(["place a 1", "place b 0", "place c 0", "fire t : a -> b", "fire u : a -> b"])
        conditions = [("a", None), ("b", 0), ("b", 1)]
        for cuts, wrong in [((False, True), None), ((True, False), ("cut", 0)), ((True, True), ("cut", 0)), ((False, False), None)]:
            events = [("t", (0,), (1,), cuts[0]), ("u", (0,), (2,), cuts[1])]
            self.assertEqual(self.wrong((conditions, events), net), wrong)
            # In the list the one that is first by the order must stand ahead, too.
            turned = [("u", (0,), (1,), cuts[1]), ("t", (0,), (2,), cuts[0])]
            wrong = None if cuts == (False, False) else ("cut", 1) if cuts == (True, False) else ("cut", 0)
            self.assertEqual(self.wrong((conditions, turned), net), wrong)

    def test_cut_ahead_of_lacks(self):
        net = read_net(["place a 1", "place b 0", "place c 0", "fire t : a -> b", "fire u : a -> b", "fire v : b -> c"])
        conditions = [("a", None), ("b", 0), ("b", 1)]
        self.assertEqual(self.wrong((conditions, [("t", (0,), (1,), True), ("u", (0,), (2,), False)]), net), ("cut", 0))
        self.assertEqual(self.wrong((conditions, [("t", (0,), (1,), False), ("u", (0,), (2,), True)]), net), ("lacks", "v", (1,)))
        self.assertEqual(self.wrong((conditions, [("t", (0,), (1,), False), ("u", (0,), (2,), False)]), net), ("lacks", "v", (1,)))
        longer = conditions + [("c", 2)]
        events = [("t", (0,), (1,), False), ("u", (0,), (2,), False), ("v", (1,), (3,), False)]
        self.assertEqual(self.wrong((longer, events), net), ("lacks", "v", (2,)))
        self.assertIsNone(self.wrong((longer + [("c", 3)], [*events, ("v", (2,), (4,), False)]), net))
        self.assertIsNone(self.wrong((longer + [("c", 3)], [*events, ("v", (2,), (4,), True)]), net))

    def test_cut_by_a_cut_one(self):
        net = read_net(["place a 1", "place b 0", "fire t : a -> b", "fire u : a -> b", "fire v : a -> b"])
        conditions = [("a", None), ("b", 0), ("b", 1), ("b", 2)]
        events = [("t", (0,), (1,), False), ("u", (0,), (2,), True), ("v", (0,), (3,), True)]
        self.assertIsNone(self.wrong((conditions, events), net))
        # Nothing asks that the one by which it is cut isn't cut; here both would be cut by a later one.
        swapped = [("u", (0,), (1,), True), ("v", (0,), (2,), True), ("t", (0,), (3,), False)]
        self.assertEqual(self.wrong((conditions, swapped), net), ("cut", 0))
        one = [("u", (0,), (1,), False), ("v", (0,), (2,), True), ("t", (0,), (3,), False)]
        self.assertIsNone(self.wrong((conditions, one), net))

    def test_lacks(self):
        self.assertEqual(self.wrong((CONDITIONS[:8], EVENTS[:4])), ("lacks", "anew", (4, 5)))
        self.assertEqual(self.wrong((CONDITIONS[:6], EVENTS[:3])), ("lacks", "anew", (2, 3)))
        self.assertEqual(self.wrong((CONDITIONS[:4], EVENTS[:1])), ("lacks", "one", (0,)))
        # By the firings' order, then the least takes.
        chance = random.Random(57)
        for _ in range(60):
            net = machines(chance)
            conditions, events = unfold(net)
            many = chance.randrange(len(events) + 1)
            shorter = (conditions[:len([c for c in conditions if c[1] is None or c[1] < many])], events[:many])
            if len(events) <= 8:
                lacking = slowly.wanted(net, shorter)
                self.assertEqual(self.wrong(shorter, net), ("lacks", *lacking[0]) if lacking else None)

    def test_fewer_cuts(self):
        # Two events of one heap, neither cut, and what follows on both.
        net = read_net(["place a 1", "place b 0", "place c 0", "fire t : a -> b", "fire u : a -> b", "fire v : b -> c"])
        conditions = [("a", None), ("b", 0), ("b", 1), ("c", 2), ("c", 3)]
        events = [("t", (0,), (1,), False), ("u", (0,), (2,), False), ("v", (1,), (3,), False), ("v", (2,), (4,), False)]
        whole = (conditions, events)
        self.assertIsNone(self.wrong(whole, net))
        self.assertEqual(dead_cuts(net, whole), [(0, 0, 1)])
        for heap in reach(net)[0]:
            self.assertEqual(heap_of(net, whole, events_of(net, whole, heap)), heap)

    def test_not_plain(self):
        for thing in [None, told()]:
            with self.assertRaises(NotPlain) as caught:
                unfolding_wrong(MILL, thing)
            self.assertEqual(caught.exception.wrong, [])
            two = read_net(["place a 1", "place b 1", "fire t : a -> b"])
            with self.assertRaises(NotPlain) as caught:
                unfolding_wrong(two, thing)
            self.assertEqual(caught.exception.wrong, ["t"])
        places = tuple([(f"p{k}", 1 - k % 2) for k in range(22)])
        fires = tuple([(f"t{k}", "", ((f"p{2 * k}", 1),), ((f"p{2 * k + 1}", 1),)) for k in range(11)])
        with self.assertRaises(TooGreat) as caught:
            unfolding_wrong((places, fires), None)
        self.assertEqual(caught.exception.most, 2000)

    def test_against_plain_drawn_changes(self):
        """Whatever is changed in a right one is either told, or right by the document's words, too."""
        chance = random.Random(58)
        for _ in range(400):
            net = machines(chance, firings=4)
            conditions, events = unfold(net)
            if not 1 <= len(events) <= 7:
                continue
            events = list(events)
            k = chance.randrange(len(events))
            name, takes, gives, cut = events[k]
            events[k] = chance.choice([(name, takes, gives, not cut), (net[1][0][0], takes, gives, cut), (name, takes[:-1], gives, cut),
                                       (name, tuple([chance.randrange(len(conditions)) for _ in takes]), gives, cut)])
            wrong = self.wrong((conditions, events), net)
            self.assertEqual(wrong, self.slow_wrong(net, conditions, events))

    def slow_wrong(self, net, conditions, events):
        firings = {firing[0]: k for k, firing in enumerate(net[1])}
        expected = slowly.start_of(net) + [(place, k) for k, event in enumerate(events) for place in slowly.given(net, event[0])]
        for k in range(max(len(expected), len(conditions))):
            if k >= len(expected) or k >= len(conditions) or expected[k] != conditions[k]:
                return ("condition", k)
        for k, (name, takes, gives, cut) in enumerate(events):
            ahead = ([c for c in conditions if c[1] is None or c[1] < k], events[:k])
            if gives != tuple([c for c, (_, maker) in enumerate(conditions) if maker == k]) or (name, takes) not in slowly.wanted(net, ahead):
                return ("event", k)
        for k, event in enumerate(events):
            lot = slowly.past((conditions, events), k)
            heap = slowly.heap_at(net, (conditions, events), lot)
            if event[3] and heap != tuple([start for _, start in net[0]]) and not any(
                    slowly.rank(net, (conditions, events), slowly.past((conditions, events), j)) < slowly.rank(net, (conditions, events), lot)
                    and slowly.heap_at(net, (conditions, events), slowly.past((conditions, events), j)) == heap for j in range(k)):
                return ("cut", k)
        lacking = slowly.wanted(net, (conditions, events))
        return ("lacks", *lacking[0]) if lacking else None

    def test_what_is_handed_in_stays(self):
        thing = told()
        kept = copy.deepcopy(thing)
        self.wrong(thing)
        self.assertEqual(thing, kept)
        self.assertIsNone(plain_row(SIDES))


if __name__ == "__main__":
    unittest.main()
