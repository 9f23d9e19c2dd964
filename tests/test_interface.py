"""The interface's names and arguments, and what holds over all of it."""

import ast
import copy
import inspect
import pathlib
import unittest

from samples import DOOR, MILL, MILL_TEXT, NO_NETS, WELL, changed
from tokenfold import (bounds, cover, cuts, errors, firing, leads, lives, logs, nets, plays, reach, reductions, regions, siphons,
                       soundness, sums, tables, texts, unfolding, workshop)

# Of each function its arguments' names; those behind a * are handed in by their names alone.
FUNCTIONS = {
    nets: {"net_wrong": "thing"},
    texts: {"read_net": "text", "printed": "net", "rows_of": "text"},
    firing: {
        "heap_wrong": "net thing", "start_heap": "net", "fired": "net heap name", "gone": "net heap row",
        "at_once": "net heap bag", "can": "net heap", "words": "net row", "process": "net row", "layers": "net row",
        "swapped": "net row k",
    },
    reach: {
        "reach": "net *most", "way": "net heap *most", "way_wrong": "net heap thing", "dead": "net *most",
        "stirring": "net *most",
    },
    cover: {"covered": "net heap *most", "covered_wrong": "net heap thing"},
    bounds: {
        "widest": "net *most", "endless": "net *most", "bound": "net place *most", "bound_wrong": "net place thing",
        "stair_end": "net stair",
    },
    sums: {
        "sum_wrong": "net thing", "loop_wrong": "net thing", "worth": "net weights heap", "sums": "net", "loops": "net",
        "least_sums": "net *most", "least_loops": "net *most", "made": "net weights", "made_of_loops": "net times",
    },
    siphons: {
        "is_siphon": "net places", "is_trap": "net places", "siphon_in": "net places", "trap_in": "net places",
        "siphons": "net", "trapped": "net", "trapped_wrong": "net thing",
    },
    soundness: {"sound": "net source sink *most", "sound_wrong": "net source sink paper"},
    lives: {
        "life": "net name *most", "life_wrong": "net name paper", "home": "net heap *most", "home_wrong": "net heap paper",
        "homes": "net *most",
    },
    unfolding: {
        "plain_row": "net *most", "unfold": "net *most", "heap_of": "net unfolding events", "row_of": "net unfolding events",
    },
    cuts: {"events_of": "net unfolding heap", "dead_cuts": "net unfolding", "unfolding_wrong": "net thing"},
    reductions: {
        "turn_wrong": "net turn", "turned": "net turn", "heap_led": "net turn heap", "heap_back": "net turn heap",
        "row_led": "net turn row", "row_back": "net turn row", "reduced": "net", "heap_led_by": "net turns heap",
        "heap_back_by": "net turns heap", "row_led_by": "net turns row", "row_back_by": "net turns row",
    },
    tables: {"table_wrong": "thing", "table_of": "net *most", "roads": "table", "rings": "table", "same": "one other"},
    regions: {"region_wrong": "table region", "made_net": "table", "made_net_wrong": "table thing"},
    logs: {
        "laying_wrong": "net row thing *goal", "cost_of": "net laying *prices", "laid": "net row *goal *prices *most",
        "paper_of": "net row *goal *prices *most", "laying_least": "net row told thing *goal *prices",
        "laid_all": "net rows *prices *most", "fits": "net row *goal *most",
    },
    leads: {"led": "net other heap names"},
}
CLASSES = {
    plays: {"Play": {"__init__": "net", "fire": "name", "heap": "", "trail": "", "words": "", "back": "", "copy": "",
                     "net": "", "__eq__": "other", "__len__": ""}},
    workshop: {"Workshop": {"__init__": "text", "start": "title", "fire": "title firing", "heap": "title", "trail": "title",
                            "edit": "text *names", "stop": "title", "back": "", "text": "", "net": "", "titles": "", "log": ""}},
}
DEFAULTS = {"most": 2000, "goal": None, "prices": (1, 1), "names": None}
# Where a function's own is another one.
OWN_DEFAULTS = {("unfold", "most"): 400}
HEAP = (3, 2, 0, 0)
ROW = ["begin", "begin", "end"]
STAIR = [(["draw"], ["pour", "draw"]), (["pour"], [])]
DOOR_END = (1, 0, 0, 1)
DOOR_UNFOLDING = ([("idle", None), ("key", None), ("room", 0), ("lost", 1), ("idle", 2), ("key", 2)],
                  [("enter", (0, 1), (2,), False), ("lose", (1,), (3,), False), ("leave", (2,), (4, 5), True)])
DOOR_TABLE = (("enter", "leave", "lose"), 3, ((0, "enter", 1), (0, "lose", 2), (1, "leave", 0)))
IDLE = ("implied", "idle", (("key", 1), ("lost", 1)), 0)
TURNS = [IDLE, ("through", "leave")]
REGION = ((1, 0, 1), ((1, 0), (0, 1), (0, 0)))
MADE = ((("a", 1),), (("enter", "enter", (("a", 1),), ()), ("leave", "leave", (), (("a", 1),)), ("lose", "lose", (), ())))
LOUD = (DOOR[0], (("enter", "in", *DOOR[1][0][2:]), *DOOR[1][1:]))
CALLS = {
    "net_wrong": [MILL], "read_net": [MILL_TEXT], "printed": [MILL], "rows_of": [MILL_TEXT],
    "heap_wrong": [MILL, HEAP], "start_heap": [MILL], "fired": [MILL, HEAP, "begin"], "gone": [MILL, HEAP, ROW],
    "at_once": [MILL, HEAP, (("begin", 1),)], "can": [MILL, HEAP], "words": [MILL, ROW], "process": [MILL, ROW],
    "layers": [MILL, ROW], "swapped": [MILL, ROW, 0],
    "reach": [DOOR, 5], "way": [DOOR, (1, 0, 0, 1), 5], "dead": [DOOR, 5], "stirring": [DOOR, 5],
    "way_wrong": [DOOR, (2, 0, 0, 0), ("never", [(1, 1, 0, 0), (0, 0, 1, 0), (1, 0, 0, 1)])],
    "covered": [DOOR, (2, 0, 0, 0), 50], "covered_wrong": [WELL, (2, 0, 0), ("never", [(2, 0, 0), (1, 1, 0), (0, 2, 0)])],
    "widest": [WELL, 50], "endless": [WELL, 50], "bound": [WELL, "pail", 50], "stair_end": [WELL, STAIR],
    "sum_wrong": [MILL, (0, 1, 1, 0)], "loop_wrong": [DOOR, (1, 1, 0)], "worth": [MILL, (0, 2, 2, 0), HEAP], "sums": [DOOR],
    "loops": [DOOR], "least_sums": [DOOR, 9], "least_loops": [DOOR, 9], "made": [MILL, (0, -3, -3, 0)],
    "made_of_loops": [DOOR, (4, 4, 0)], "is_siphon": [DOOR, ["room", "key", "key"]], "is_trap": [DOOR, ["room", "idle"]],
    "siphon_in": [DOOR, ["room", "key", "idle"]], "trap_in": [DOOR, ["room", "key", "idle"]], "siphons": [DOOR],
    "trapped": [MILL], "trapped_wrong": [MILL, ("holds", [(["idle", "busy"], ["busy", "idle"])])],
    "sound": [DOOR, "key", "lost", 9], "sound_wrong": [DOOR, "room", "lost", ("stuck", ["leave"], [(1, 1, 0, 0)])],
    "life": [DOOR, "lose", 9], "life_wrong": [DOOR, "lose", ("some", [], ["lose"], [(1, 0, 0, 1)])], "home": [DOOR, DOOR_END, 9],
    "home_wrong": [DOOR, (1, 1, 0, 0), ("away", ["lose"], [DOOR_END])], "homes": [DOOR, 9],
    "plain_row": [DOOR, 9], "unfold": [DOOR, 9], "heap_of": [DOOR, DOOR_UNFOLDING, [2, 0]], "row_of": [DOOR, DOOR_UNFOLDING, [2, 0]],
    "events_of": [DOOR, DOOR_UNFOLDING, DOOR_END], "dead_cuts": [DOOR, DOOR_UNFOLDING], "unfolding_wrong": [DOOR, DOOR_UNFOLDING],
    "turn_wrong": [DOOR, IDLE], "turned": [DOOR, IDLE], "heap_led": [DOOR, IDLE, DOOR_END], "heap_back": [DOOR, IDLE, (1, 1, 1)],
    "row_led": [DOOR, IDLE, ["lose"]], "row_back": [DOOR, IDLE, ["lose"]], "reduced": [DOOR],
    "heap_led_by": [DOOR, TURNS, DOOR_END], "heap_back_by": [DOOR, TURNS, (1, 1)], "row_led_by": [DOOR, TURNS, ["leave", "lose"]],
    "row_back_by": [DOOR, TURNS, ["enter", "lose"]], "table_wrong": [DOOR_TABLE], "table_of": [DOOR, 9], "roads": [DOOR_TABLE],
    "rings": [DOOR_TABLE], "same": [DOOR_TABLE, ((), 1, ())],
    "region_wrong": [DOOR_TABLE, REGION], "made_net": [DOOR_TABLE], "made_net_wrong": [DOOR_TABLE, ("net", MADE, [REGION])],
    "laying_wrong": [LOUD, ["x"], (("log", "x"),), None], "cost_of": [LOUD, (("log", "x"), ("net", "lose")), (5, 2)],
    "laid": [LOUD, ["x"], DOOR_END, (2, 3), 9], "paper_of": [LOUD, ["x"], DOOR_END, (2, 3), 9],
    "laying_least": [LOUD, ["x"], (1, (("log", "x"),)), [((1, 1, 0, 0), 0, 0)], None, (1, 1)],
    "laid_all": [LOUD, [["x"], ["oh", "in"]], (1, 9), 50], "fits": [LOUD, ["oh"], DOOR_END, 9],
    "led": [DOOR, LOUD, DOOR_END, {"lost": "key"}],
    "bound_wrong": [WELL, "pail", ("most", 1, [(["draw"], ["pour", "draw"]), (["pour"], [])], [(0, 1, None), (1, 0, None)])],
}


def functions():
    """All functions of the interface, each with its name and its arguments' names."""
    return [(getattr(module, name), name, args.split()) for module, told in FUNCTIONS.items()
            for name, args in told.items()]


def default_of(name, arg):
    """What stands for that argument of that function where it isn't handed in."""
    return OWN_DEFAULTS.get((name, arg), DEFAULTS[arg])


def call(function, name, args):
    """What the function tells of its call, those behind a * handed in by their names."""
    places = [worth for arg, worth in zip(args, CALLS[name]) if arg[0] != "*"]
    return function(*places, **{arg[1:]: worth for arg, worth in zip(args, CALLS[name]) if arg[0] == "*"})


class Interface(unittest.TestCase):

    def test_defined_in_their_files(self):
        for told, kind in [(FUNCTIONS, ast.FunctionDef), (CLASSES, ast.ClassDef)]:
            for module, names in told.items():
                rows = ast.parse(pathlib.Path(module.__file__).read_text()).body
                defined = {row.name for row in rows if isinstance(row, kind)}
                self.assertEqual(set(names) - defined, set())

    def test_methods_are_defined_in_their_classes(self):
        for module, told in CLASSES.items():
            for name, methods in told.items():
                for method, args in methods.items():
                    with self.subTest((name, method)):
                        parameters = list(inspect.signature(vars(getattr(module, name))[method]).parameters.values())
                        self.assertEqual(parameters[0].name, "self")
                        self.compared(method, parameters[1:], args.split())

    def test_arguments(self):
        for function, name, args in functions():
            with self.subTest(name):
                self.compared(name, inspect.signature(function).parameters.values(), args)

    def compared(self, name, parameters, args):
        """Sees that a function of that name has these arguments."""
        for parameter, arg in zip(parameters, args, strict=True):
            alone = arg[0] == "*"
            self.assertEqual(parameter.name, arg.strip("*"))
            self.assertEqual(parameter.kind, parameter.KEYWORD_ONLY if alone else parameter.POSITIONAL_OR_KEYWORD)
            self.assertEqual(parameter.default, default_of(name, arg[1:]) if alone else parameter.empty)

    def test_numbers(self):
        self.assertEqual(reach.MOST_HEAPS, 2000)
        self.assertEqual(unfolding.MOST_EVENTS, 400)

    def test_handed_in_by_places_and_by_names(self):
        for function, name, args in functions():
            with self.subTest(name):
                by_names = dict(reversed(list(zip([arg.strip("*") for arg in args], CALLS[name]))))
                self.assertEqual(call(function, name, args), function(**by_names))


class Whole(unittest.TestCase):

    def test_what_is_handed_in_stays(self):
        for function, name, args in functions():
            with self.subTest(name):
                kept = copy.deepcopy(CALLS[name])
                call(function, name, args)
                self.assertEqual(CALLS[name], kept)

    def test_what_is_told_is_the_askers_own(self):
        for function, name, args in functions():
            with self.subTest(name):
                first = call(function, name, args)
                kept = copy.deepcopy(first)
                changed(first)
                self.assertEqual(call(function, name, args), kept)
                self.assertEqual(call(function, name, args), kept)

    def test_what_is_done_behind_a_call_changes_nothing(self):
        told = reach.way(DOOR, (1, 0, 0, 1))
        row = ["lose"]
        paper = ("row", row)
        self.assertIsNone(reach.way_wrong(DOOR, (1, 0, 0, 1), paper))
        row.append("lose")
        self.assertEqual(reach.way(DOOR, (1, 0, 0, 1)), told)

    def test_refused_changes_nothing(self):
        row = ["begin", "end", "end"]
        with self.assertRaises(errors.Stuck):
            firing.gone(MILL, HEAP, row)
        with self.assertRaises(errors.NotApart):
            firing.swapped(MILL, row[:2], 0)
        self.assertEqual(row, ["begin", "end", "end"])

    def test_no_net_ahead_of_all_else(self):
        for function, name, args in functions():
            if args[0] != "net":
                continue
            for thing, wrong in NO_NETS:
                with self.subTest((name, thing)):
                    with self.assertRaises(errors.NoNet) as caught:
                        function(thing, *[None for arg in args[1:] if arg[0] != "*"])
                    self.assertEqual(caught.exception.wrong, wrong)

    def test_truths_are_no_whole_numbers(self):
        self.assertEqual(nets.net_wrong(((("a", True),), ())), ("place", 0))
        self.assertEqual(nets.net_wrong(((("a", 1),), (("t", "", (("a", True),), ()),))), ("firing", 0))
        self.assertEqual(firing.heap_wrong(MILL, (3, 2, 0, False)), ("place", 3))
        with self.assertRaises(errors.NoBag):
            firing.at_once(MILL, HEAP, (("begin", True),))
        with self.assertRaises(errors.NoNumber):
            firing.swapped(MILL, ROW, False)
        self.assertEqual(reach.way_wrong(DOOR, HEAP, ("never", [(True, 1, 0, 0)])), ("paper",))
        self.assertEqual(cover.covered_wrong(DOOR, HEAP, ("never", [(True, 1, 0, 0)])), ("paper",))
        self.assertEqual(bounds.bound_wrong(WELL, "pail", ("most", True, [], [(None, None, None)])), ("paper",))
        self.assertEqual(bounds.bound_wrong(WELL, "pail", ("most", 1, [], [(True, None, None)])), ("paper",))
        self.assertEqual(sums.sum_wrong(MILL, (False, 1, 1, 0)), ("sum",))
        self.assertEqual(sums.loop_wrong(DOOR, (1, True, 0)), ("loop",))
        self.assertEqual(lives.home_wrong(DOOR, DOOR_END, ("home", [(DOOR_END, False)])), ("paper",))
        with self.assertRaises(errors.NoEvents):
            unfolding.heap_of(DOOR, DOOR_UNFOLDING, [False])
        self.assertEqual(reductions.turn_wrong(DOOR, ("implied", "idle", (("key", True), ("lost", 1)), 0)), ("turn",))
        self.assertEqual(reductions.turn_wrong(DOOR, (*IDLE[:3], False)), ("turn",))
        self.assertEqual(tables.table_wrong((("a",), True, ())), ("form",))
        self.assertEqual(tables.table_wrong((("a",), 2, ((0, "a", True),))), ("arc", 0))
        self.assertEqual(regions.region_wrong(DOOR_TABLE, ((True, 0, 1), REGION[1])), ("form",))
        self.assertEqual(logs.laying_least(LOUD, ["x"], (True, (("log", "x"),)), []), ("laying",))
        with self.assertRaises(errors.NoPrices):
            logs.laid(LOUD, ["x"], prices=(True, 1))
        with self.assertRaises(errors.NoCount):
            logs.laid(LOUD, ["x"], most=True)
        with self.assertRaises(errors.NoTitle):
            workshop.Workshop(MILL_TEXT).start(True)

    def test_truths_are_told_where_the_document_says_so(self):
        self.assertTrue(all(isinstance(event[3], bool) for event in unfolding.unfold(DOOR)[1]))
        self.assertEqual(cuts.unfolding_wrong(DOOR, (DOOR_UNFOLDING[0], [(*event[:3], int(event[3]))
                                                                         for event in DOOR_UNFOLDING[1]])), ("form",))


if __name__ == "__main__":
    unittest.main()
