import random
import unittest

from samples import NO_NETS, STRANGE, is_deeply_fresh, net_by_chance
from tokenfold.errors import NoNet, NoPlace, TooGreat
from tokenfold.firing import can, fired
from tokenfold.soundness import sound, sound_wrong
from tokenfold.texts import read_net

# A claim is looked at and paid for side by side, and may be sent back.
CLAIM = read_net(["place in 7", "place look 0", "place pay 3", "place seen 0", "place paid 0", "place out 5",
                  "fire split : in -> look + pay", "fire see : look -> seen", "fire send : seen -> look",
                  "fire settle : pay -> paid", "fire join : seen + paid -> out"])
HEAPS = [(1, 0, 0, 0, 0, 0), (0, 1, 1, 0, 0, 0), (0, 0, 1, 1, 0, 0), (0, 1, 0, 0, 1, 0), (0, 0, 0, 1, 1, 0),
         (0, 0, 0, 0, 0, 1)]
ROWS = list(zip(HEAPS, [4, 3, 2, 2, 1, 0]))
FIRSTS = [0, 1, 2, 1, 4]
# Its token gets to b and goes no further, or from a to the sink.
STUCK = read_net(["place in 0", "place a 0", "place b 0", "place out 0", "fire s : in -> a", "fire t : a -> b",
                  "fire u : a -> out"])
OVER = read_net(["place in 0", "place a 0", "place out 0", "fire s : in -> a", "fire t : a -> 2 out", "fire u : a -> out"])
LEFT = read_net(["place in 0", "place a 0", "place out 0", "fire s : in -> a + out", "fire t : a -> 0"])
GROWS = read_net(["place in 0", "place a 0", "place b 0", "place out 0", "fire s : in -> a", "fire t : a -> a + b",
                  "fire u : a + b -> out"])
DEAD = read_net(["place in 0", "place a 0", "place out 0", "fire s : in -> out", "fire t : a -> out"])


def work_by_chance(chance):
    """A net by chance with an in ahead and an out behind."""
    places, fires = net_by_chance(chance, places=3, firings=5, count=1)
    names = ["in"] + [name for name, _ in places] + ["out"]
    told = []
    for name, label, *_ in fires:
        sides = [tuple([(one, 1) for one in names if one in chance.sample(names, chance.randrange(1, 3))]) for _ in range(2)]
        told.append((name, label, sides[0], sides[1]))
    return (tuple([(name, 0) for name in names]), tuple(told))


def come_to(net, begin, limit):
    """All heaps that rows lead to from the begin, None where there are more than the limit."""
    found = [begin]
    for heap in found:
        for name in can(net, heap):
            behind = fired(net, heap, name)
            if behind not in found:
                found.append(behind)
                if len(found) > limit:
                    return None
    return found


def is_sound(net, heaps, end):
    """Whether the work is sound, gone through by hand."""
    if any(heap[-1] > 0 and heap != end for heap in heaps) or not all(end in come_to(net, heap, 10 ** 6) for heap in heaps):
        return False
    return all(any(firing[0] in can(net, heap) for heap in heaps) for firing in net[1])


class Sound(unittest.TestCase):

    def told(self, net):
        told = sound(net, "in", "out")
        self.assertIsNone(sound_wrong(net, "in", "out", told))
        return told

    def test_sound(self):
        word, rows, firsts = self.told(CLAIM)
        self.assertEqual(word, "sound")
        self.assertEqual(sorted(heap for heap, _ in rows), sorted(HEAPS))
        self.assertEqual(len(firsts), 5)

    def test_stuck(self):
        told = self.told(STUCK)
        self.assertEqual(told[0], "stuck")
        self.assertEqual(self.told(((("in", 1), ("out", 0)), ())), ("stuck", [], [(1, 0)]))

    def test_over(self):
        self.assertEqual(self.told(OVER), ("over", ["s", "t"]))
        self.assertEqual(self.told(LEFT), ("over", ["s"]))

    def test_grows(self):
        told = self.told(GROWS)
        self.assertEqual(told, ("grows", ["s"], ["t"]))
        # From where one in goes on, there are ever more in a.
        net = read_net(["place in 0", "place a 0", "place out 0", "fire s : in -> in + a", "fire t : in + a -> out"])
        self.assertEqual(self.told(net), ("grows", [], ["s"]))

    def test_grows_by_a_longer_loop(self):
        net = read_net(["place in 0", "place a 0", "place b 0", "place c 0", "place out 0", "fire s : in -> a",
                        "fire t : a -> b", "fire u : b -> a + c", "fire v : a + c -> out"])
        self.assertEqual(self.told(net), ("grows", ["s"], ["t", "u"]))

    def test_as_soon_as_one_is_come_to(self):
        # t leads beyond the end ahead of all that u leads to, which grows.
        net = read_net(["place in 0", "place a 0", "place out 0", "fire t : in -> 2 out", "fire u : in -> in + a"])
        self.assertEqual(self.told(net), ("over", ["t"]))
        net = read_net(["place in 0", "place a 0", "place out 0", "fire u : in -> in + a", "fire t : in -> 2 out"])
        self.assertEqual(self.told(net), ("grows", [], ["u"]))

    def test_dead(self):
        told = self.told(DEAD)
        self.assertEqual((told[0], told[1]), ("dead", "t"))
        self.assertEqual(sorted(told[2]), [(0, 0, 1), (1, 0, 0)])

    def test_the_nets_own_start_counts_for_nothing(self):
        for starts in [(0,) * 6, (9,) * 6]:
            net = (tuple([(name, start) for (name, _), start in zip(CLAIM[0], starts)]), CLAIM[1])
            self.assertEqual(sound(net, "in", "out"), sound(CLAIM, "in", "out"))

    def test_other_places_than_the_first_and_last(self):
        net = read_net(["place x 0", "place sink 1", "place source 0", "fire t : source -> x", "fire u : x -> sink"])
        self.assertEqual(sound(net, "source", "sink")[0], "sound")
        self.assertEqual(sound(sink="source", source="sink", net=net)[0], "stuck")

    def test_from_the_end_on(self):
        # From the end it begins anew.
        net = read_net(["place in 0", "place out 0", "fire t : in -> out", "fire u : out -> in"])
        self.assertEqual(self.told(net)[0], "sound")
        # What comes behind the end counts, too.
        net = read_net(["place in 0", "place a 0", "place out 0", "fire t : in -> out", "fire u : out -> a"])
        self.assertEqual(self.told(net)[0], "stuck")

    def test_against_soundness_by_hand(self):
        chance = random.Random(41)
        words = []
        for _ in range(500):
            net = work_by_chance(chance)
            begin = (1,) + (0,) * (len(net[0]) - 1)
            heaps = come_to(net, begin, 60)
            told = sound(net, "in", "out")
            words.append(told[0])
            self.assertIsNone(sound_wrong(net, "in", "out", told), (net, told))
            if heaps is not None:
                self.assertEqual(told[0] == "sound", is_sound(net, heaps, begin[::-1]), net)
                self.assertEqual(told[0] == "grows", False)
            else:
                self.assertIn(told[0], ["over", "grows"])
        self.assertEqual(set(words), {"sound", "stuck", "over", "grows", "dead"})

    def test_refused_in_order(self):
        for thing, wrong in NO_NETS:
            for ask in [lambda: sound(thing, "x", "x", most=1), lambda: sound_wrong(thing, "x", "x", None)]:
                with self.assertRaises(NoNet) as caught:
                    ask()
                self.assertEqual(caught.exception.wrong, wrong)
        for source, sink, place in [("x", "out", "x"), ("in", "x", "x"), ("x", "y", "x"), ("in", "in", "in"),
                                    ("out", "out", "out"), ("x", "x", "x"), (None, "out", None), ("in", True, True),
                                    ("in", ["out"], ["out"]), ("split", "out", "split"), ("", "out", ""), ("in", 0, 0)]:
            with self.subTest((source, sink)):
                for ask in [lambda: sound(CLAIM, source, sink, most=1), lambda: sound_wrong(CLAIM, source, sink, None)]:
                    with self.assertRaises(NoPlace) as caught:
                        ask()
                    self.assertEqual(caught.exception.place, place)

    def test_too_great(self):
        for most in range(1, 9):
            if most < 6:
                with self.assertRaises(TooGreat) as caught:
                    sound(CLAIM, "in", "out", most=most)
                self.assertEqual(caught.exception.most, most)
            else:
                self.assertEqual(sound(CLAIM, "in", "out", most=most)[0], "sound")

    def test_not_too_great_where_one_of_the_first_is_such_a_one(self):
        # The third heap that is come to is beyond the end, or grows.
        for net, word in [(OVER, "over"), (GROWS, "grows")]:
            for most in [3, 4, 5]:
                self.assertEqual(sound(net, "in", "out", most=most)[0], word)
            with self.assertRaises(TooGreat):
                sound(net, "in", "out", most=2)

    def test_many_heaps(self):
        names = [f"p{k}" for k in range(10)]
        text = ["place in 0", *[f"place {name} 0" for name in names], *[f"place {name}x 0" for name in names], "place out 0"]
        text += ["fire split : in -> " + " + ".join(names), *[f"fire {name} : {name} -> {name}x" for name in names]]
        text += ["fire join : " + " + ".join([name + "x" for name in names]) + " -> out"]
        told = self.told(read_net(text))
        self.assertEqual((told[0], len(told[1])), ("sound", 1026))

    def test_told_lists_are_new(self):
        for net in [CLAIM, STUCK, OVER, GROWS, DEAD]:
            self.assertTrue(is_deeply_fresh(lambda: sound(net, "in", "out")))


class Papers(unittest.TestCase):
    """What is no paper by form."""

    def test_strange_things(self):
        for thing in STRANGE + ["sound", ("sound",), ("over",), ("over", None), ("grows",), ("stuck",), ("dead",), ("Over", ["s"]),
                                ("over", ["split"], ["split"]), ["over", ["split"]], ("", ["split"]), (("over",), ["split"])]:
            with self.subTest(thing):
                self.assertEqual(sound_wrong(CLAIM, "in", "out", thing), ("paper",))

    def test_numbered_lists(self):
        for rows in [None, (), tuple(ROWS), HEAPS, [list(row) for row in ROWS], ROWS + [ROWS[0]], ROWS + [(HEAPS[0], 9)],
                     ROWS[:-1] + [(HEAPS[5], -1)], ROWS[:-1] + [(HEAPS[5], False)], ROWS[:-1] + [(HEAPS[5], None)],
                     ROWS[:-1] + [(HEAPS[5], 0, 0)], ROWS[:-1] + [(list(HEAPS[5]), 0)], ROWS + [((0,) * 5, 0)],
                     ROWS + [((0,) * 5 + (-1,), 0)], ROWS + [((0,) * 5 + (True,), 0)], ROWS + [(None, 0)], ROWS + [None],
                     ROWS + [()], ROWS + [(HEAPS[0],)], [(0, heap) for heap in HEAPS]]:
            with self.subTest(rows):
                self.assertEqual(sound_wrong(CLAIM, "in", "out", ("sound", rows, FIRSTS)), ("paper",))

    def test_firsts(self):
        for firsts in [None, (), tuple(FIRSTS), [], FIRSTS[:4], FIRSTS + [0], FIRSTS[:4] + [6], FIRSTS[:4] + [-1],
                       FIRSTS[:4] + [True], FIRSTS[:4] + [None], FIRSTS[:4] + ["4"], ["split", "see", "send", "settle", "join"],
                       FIRSTS[:4] + [(4,)], 0]:
            with self.subTest(firsts):
                self.assertEqual(sound_wrong(CLAIM, "in", "out", ("sound", ROWS, firsts)), ("paper",))
        self.assertEqual(sound_wrong(CLAIM, "in", "out", ("sound", [], FIRSTS)), ("paper",))
        self.assertEqual(sound_wrong(CLAIM, "in", "out", ("sound", ROWS)), ("paper",))
        self.assertEqual(sound_wrong(CLAIM, "in", "out", ("sound", ROWS, FIRSTS, 0)), ("paper",))

    def test_rows_and_heaps(self):
        for row in [None, (), ("split",), "split", ["x"], ["in"], ["split", None], ["split", 0], [["split"]], [True]]:
            for thing in [("stuck", row, []), ("over", row), ("grows", row, []), ("grows", [], row)]:
                with self.subTest(thing):
                    self.assertEqual(sound_wrong(CLAIM, "in", "out", thing), ("paper",))
        for heaps in [None, (), tuple(HEAPS), ROWS, HEAPS + [HEAPS[0]], HEAPS + [None], HEAPS + [(0,) * 5], HEAPS + [(True,) * 6],
                      HEAPS + [(-1,) * 6], [list(heap) for heap in HEAPS], "", [0]]:
            for thing in [("stuck", [], heaps), ("dead", "split", heaps)]:
                with self.subTest(thing):
                    self.assertEqual(sound_wrong(CLAIM, "in", "out", thing), ("paper",))
        for name in [None, "", "x", "in", 0, True, ("split",), ["split"], []]:
            with self.subTest(name):
                self.assertEqual(sound_wrong(CLAIM, "in", "out", ("dead", name, HEAPS)), ("paper",))
        for thing in [("stuck", []), ("stuck", [], HEAPS, 0), ("grows", []), ("grows", [], [], []), ("dead", "split"),
                      ("dead", "split", HEAPS, 0)]:
            self.assertEqual(sound_wrong(CLAIM, "in", "out", thing), ("paper",))


class JudgeOfSound(unittest.TestCase):

    def wrong(self, rows, firsts=FIRSTS):
        return sound_wrong(CLAIM, "in", "out", ("sound", rows, firsts))

    def test_right(self):
        self.assertIsNone(self.wrong(ROWS))
        self.assertIsNone(self.wrong([(heap, 10 * n + 7) for heap, n in ROWS]))
        order = [5, 4, 3, 2, 1, 0]
        self.assertIsNone(self.wrong([ROWS[k] for k in order], [5, 4, 3, 4, 1]))
        self.assertIsNone(self.wrong(ROWS, [0, 3, 4, 2, 4]))

    def test_begin(self):
        self.assertEqual(self.wrong(ROWS[1:], [0, 0, 0, 0, 0]), ("begin",))
        self.assertEqual(self.wrong([((0, 0, 0, 0, 0, 3), 0)], [0] * 5), ("begin",))

    def test_follows(self):
        self.assertEqual(self.wrong(ROWS[:1], [0] * 5), ("follows", 0, "split"))
        self.assertEqual(self.wrong(ROWS[:3] + ROWS[4:], [0] * 5), ("follows", 1, "settle"))
        self.assertEqual(self.wrong(ROWS[:1] + ROWS[2:], [0] * 5), ("follows", 0, "split"))
        self.assertEqual(self.wrong(ROWS[:2] + ROWS[3:], [0] * 5), ("follows", 1, "see"))
        self.assertEqual(self.wrong(ROWS[:5], [0] * 5), ("follows", 4, "join"))

    def test_heaps_that_no_row_leads_to_are_looked_at_too(self):
        self.assertEqual(self.wrong(ROWS + [((0, 5, 0, 0, 0, 0), 9)]), ("follows", 6, "see"))
        self.assertEqual(self.wrong(ROWS + [((0, 0, 0, 0, 2, 0), 9)]), ("down", 6))
        self.assertEqual(self.wrong(ROWS + [((0, 0, 0, 0, 0, 2), 9)]), ("down", 6))
        self.assertEqual(self.wrong(ROWS + [((0, 0, 1, 0, 0, 0), 2), ((0, 0, 0, 0, 1, 0), 1)]), ("down", 7))

    def test_follows_of_all_ahead_of_down(self):
        self.assertEqual(self.wrong([(HEAPS[0], 0)] + ROWS[1:5], [0] * 5), ("follows", 4, "join"))

    def test_down(self):
        for k in range(5):
            rows = [(heap, 0 if at == k else n) for at, (heap, n) in enumerate(ROWS)]
            # Of 0 nothing is lesser; what is ahead steps down to it.
            self.assertEqual(self.wrong(rows), ("down", k))
        self.assertEqual(self.wrong([(heap, 3) for heap in HEAPS]), ("down", 0))
        self.assertEqual(self.wrong(ROWS[:4] + [(HEAPS[4], 2), ROWS[5]]), ("down", 2))

    def test_the_end_need_not_step_down(self):
        self.assertIsNone(self.wrong([(heap, n + 1) for heap, n in ROWS]))
        net = read_net(["place in 0", "place out 0", "fire t : in -> out", "fire u : out -> in"])
        self.assertIsNone(sound_wrong(net, "in", "out", ("sound", [((1, 0), 1), ((0, 1), 0)], [0, 1])))
        self.assertEqual(sound_wrong(net, "in", "out", ("sound", [((1, 0), 0), ((0, 1), 1)], [0, 1])), ("down", 0))

    def test_sink(self):
        # From what is beyond the end a firing leads down to it.
        net = read_net(["place in 0", "place a 0", "place out 0", "fire t : in -> out", "fire u : a -> 0"])
        rows = [((1, 0, 0), 1), ((0, 0, 1), 0), ((0, 1, 1), 1)]
        self.assertEqual(sound_wrong(net, "in", "out", ("sound", rows, [0, 2])), ("sink", 2))
        self.assertEqual(sound_wrong(net, "in", "out", ("sound", rows, [2, 0])), ("sink", 2))
        self.assertEqual(sound_wrong(net, "in", "out", ("sound", [rows[2]] + rows[:2], [1, 0])), ("sink", 0))

    def test_first(self):
        for k in range(5):
            firsts = [5 if at == k else n for at, n in enumerate(FIRSTS)]
            self.assertEqual(self.wrong(ROWS, firsts), ("first", k))
        self.assertEqual(self.wrong(ROWS, [1, 0, 0, 0, 0]), ("first", 0))

    def test_a_dead_firing_has_no_first(self):
        rows = [((1, 0, 0), 1), ((0, 0, 1), 0)]
        for first in [0, 1]:
            self.assertEqual(sound_wrong(DEAD, "in", "out", ("sound", rows, [0, first])), ("first", 1))

    def test_what_is_handed_in_stays(self):
        rows, firsts = list(ROWS), list(FIRSTS)
        self.wrong(rows, firsts)
        self.assertEqual((rows, firsts), (ROWS, FIRSTS))


class JudgeOfTheOthers(unittest.TestCase):

    def test_over(self):
        for row, wrong in [(["s", "t"], None), (["s", "u"], ("end",)), (["s"], ("end",)), ([], ("end",)), (["t"], ("row", 0)),
                           (["s", "s"], ("row", 1)), (["s", "t", "u"], ("row", 2))]:
            self.assertEqual(sound_wrong(OVER, "in", "out", ("over", row)), wrong)
        self.assertIsNone(sound_wrong(LEFT, "in", "out", ("over", ["s"])))
        self.assertEqual(sound_wrong(LEFT, "in", "out", ("over", ["s", "t"])), ("end",))

    def test_grows(self):
        for row, loop, wrong in [(["s"], ["t"], None), (["s", "t"], ["t", "t"], None), ([], ["t"], ("row", 0)),
                                 (["s"], ["s"], ("row", 1)), (["s", "t"], ["t", "s", "t"], ("row", 3)),
                                 (["t"], ["s"], ("row", 0)), (["s"], [], ("end",)), ([], ["s"], ("end",)),
                                 (["s", "t"], ["u"], ("end",)), ([], [], ("end",)), (["s", "u"], ["u"], ("row", 1))]:
            with self.subTest((row, loop)):
                self.assertEqual(sound_wrong(GROWS, "in", "out", ("grows", row, loop)), wrong)

    def test_grows_not_by_fewer_somewhere(self):
        net = read_net(["place in 0", "place a 0", "place out 0", "fire s : in -> 3 a", "fire t : a -> out"])
        self.assertEqual(sound_wrong(net, "in", "out", ("grows", [], ["s"])), ("end",))
        self.assertEqual(sound_wrong(net, "in", "out", ("grows", ["s"], ["t"])), ("end",))

    def test_stuck(self):
        there = [(0, 0, 1, 0)]
        for row, heaps, wrong in [(["s", "t"], there, None), (["s", "t"], there + [(5, 0, 0, 0)], ("follows", 1, "s")),
                                  (["s", "t"], [(0, 0, 2, 0)] + there, None), (["t"], there, ("row", 0)),
                                  (["s", "s", "t"], there, ("row", 1)), (["s"], there, ("begin",)), (["s", "t"], [], ("begin",)),
                                  (["s"], [(0, 1, 0, 0)], ("follows", 0, "t")),
                                  (["s"], [(0, 1, 0, 0)] + there, ("follows", 0, "u")),
                                  (["s"], [(0, 1, 0, 0), (0, 0, 0, 1)] + there, ("bad", 1)),
                                  (["s", "u"], [(0, 0, 0, 1)], ("bad", 0)),
                                  (["s", "t"], there + [(0, 0, 0, 1)], ("bad", 1)),
                                  (["s", "t"], [(0, 0, 0, 1), (1, 0, 0, 0)] + there, ("follows", 1, "s"))]:
            with self.subTest((row, heaps)):
                self.assertEqual(sound_wrong(STUCK, "in", "out", ("stuck", row, heaps)), wrong)

    def test_dead(self):
        heaps = [(1, 0, 0), (0, 0, 1)]
        for name, there, wrong in [("t", heaps, None), ("t", heaps[::-1], None), ("t", heaps + [(0, 0, 7)], None),
                                   ("t", heaps[1:], ("begin",)), ("t", [], ("begin",)), ("t", heaps[:1], ("follows", 0, "s")),
                                   ("s", heaps, ("bad", 0)), ("s", heaps[::-1], ("bad", 1)),
                                   ("t", heaps + [(0, 1, 0)], ("bad", 2)), ("t", heaps + [(0, 2, 0)], ("follows", 2, "t")),
                                   ("s", heaps + [(0, 2, 0)], ("follows", 2, "t"))]:
            with self.subTest((name, there)):
                self.assertEqual(sound_wrong(DEAD, "in", "out", ("dead", name, there)), wrong)

    def test_from_the_begin_not_the_nets_start(self):
        net = read_net(["place in 0", "place out 0", "place a 5", "fire t : in -> out", "fire u : a -> out"])
        self.assertEqual(sound_wrong(net, "in", "out", ("over", ["u", "u"])), ("row", 0))
        self.assertEqual(sound_wrong(net, "in", "out", ("dead", "u", [(0, 0, 5)])), ("begin",))


if __name__ == "__main__":
    unittest.main()
