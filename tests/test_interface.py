"""The interface's names and arguments, and what holds over all of it."""

import ast
import copy
import inspect
import pathlib
import unittest

from samples import MILL, MILL_TEXT, NO_NETS
from tokenfold import errors, firing, nets, texts

FUNCTIONS = {
    nets: {"net_wrong": "thing"},
    texts: {"read_net": "text", "printed": "net", "rows_of": "text"},
    firing: {
        "heap_wrong": "net thing", "start_heap": "net", "fired": "net heap name", "gone": "net heap row",
        "at_once": "net heap bag", "can": "net heap", "words": "net row", "process": "net row", "layers": "net row",
        "swapped": "net row k",
    },
}
HEAP = (3, 2, 0, 0)
ROW = ["begin", "begin", "end"]
CALLS = {
    "net_wrong": [MILL], "read_net": [MILL_TEXT], "printed": [MILL], "rows_of": [MILL_TEXT],
    "heap_wrong": [MILL, HEAP], "start_heap": [MILL], "fired": [MILL, HEAP, "begin"], "gone": [MILL, HEAP, ROW],
    "at_once": [MILL, HEAP, (("begin", 1),)], "can": [MILL, HEAP], "words": [MILL, ROW], "process": [MILL, ROW],
    "layers": [MILL, ROW], "swapped": [MILL, ROW, 0],
}


def functions():
    """All functions of the interface, each with its name and its arguments' names."""
    return [(getattr(module, name), name, args.split()) for module, told in FUNCTIONS.items()
            for name, args in told.items()]


def changed(thing):
    """Changes a told list or dict, whatever is in it."""
    for inner in list(thing.values() if isinstance(thing, dict) else thing):
        if isinstance(inner, (list, dict)):
            changed(inner)
    if isinstance(thing, (list, dict)):
        thing.clear()


class Interface(unittest.TestCase):

    def test_defined_in_their_files(self):
        for module, told in FUNCTIONS.items():
            rows = ast.parse(pathlib.Path(module.__file__).read_text()).body
            defined = {row.name for row in rows if isinstance(row, ast.FunctionDef)}
            self.assertEqual(set(told) - defined, set())

    def test_arguments(self):
        for function, name, args in functions():
            with self.subTest(name):
                parameters = inspect.signature(function).parameters.values()
                self.assertEqual([parameter.name for parameter in parameters], args)
                self.assertTrue(all(parameter.kind == parameter.POSITIONAL_OR_KEYWORD for parameter in parameters))

    def test_handed_in_by_places_and_by_names(self):
        for function, name, args in functions():
            with self.subTest(name):
                by_names = dict(reversed(list(zip(args, CALLS[name]))))
                self.assertEqual(function(*CALLS[name]), function(**by_names))


class Whole(unittest.TestCase):

    def test_what_is_handed_in_stays(self):
        for function, name, _ in functions():
            with self.subTest(name):
                kept = copy.deepcopy(CALLS[name])
                function(*CALLS[name])
                self.assertEqual(CALLS[name], kept)

    def test_what_is_told_is_the_askers_own(self):
        for function, name, _ in functions():
            with self.subTest(name):
                first = function(*CALLS[name])
                kept = copy.deepcopy(first)
                if isinstance(first, (list, dict, tuple)):
                    changed(first)
                self.assertEqual(function(*CALLS[name]), kept)
                self.assertEqual(function(*CALLS[name]), kept)

    def test_refused_changes_nothing(self):
        row = ["begin", "end", "end"]
        with self.assertRaises(errors.Stuck):
            firing.gone(MILL, HEAP, row)
        with self.assertRaises(errors.NotApart):
            firing.swapped(MILL, row[:2], 0)
        self.assertEqual(row, ["begin", "end", "end"])

    def test_no_net_ahead_of_all_else(self):
        for function, name, args in functions():
            if args[0] != "net":
                continue
            for thing, wrong in NO_NETS:
                with self.subTest((name, thing)):
                    with self.assertRaises(errors.NoNet) as caught:
                        function(thing, *[None] * (len(args) - 1))
                    self.assertEqual(caught.exception.wrong, wrong)

    def test_truths_are_no_whole_numbers(self):
        self.assertEqual(nets.net_wrong(((("a", True),), ())), ("place", 0))
        self.assertEqual(nets.net_wrong(((("a", 1),), (("t", "", (("a", True),), ()),))), ("firing", 0))
        self.assertEqual(firing.heap_wrong(MILL, (3, 2, 0, False)), ("place", 3))
        with self.assertRaises(errors.NoBag):
            firing.at_once(MILL, HEAP, (("begin", True),))
        with self.assertRaises(errors.NoNumber):
            firing.swapped(MILL, ROW, False)


if __name__ == "__main__":
    unittest.main()
