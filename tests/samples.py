"""Nets that several tests use, and what they are asked by."""

import copy

from tokenfold.texts import read_net

MILL_TEXT = [
    "-- a mill with two workers",
    "place grain 3",
    "place idle 2",
    "place busy 0",
    "place flour 0",
    "fire begin as go : grain + idle -> busy",
    "fire end : busy -> idle + 2 flour",
    "fire bake as bread : 3 flour -> 0",
    "fire rain : 0 -> grain",
]

MILL = (
    (("grain", 3), ("idle", 2), ("busy", 0), ("flour", 0)),
    (
        ("begin", "go", (("grain", 1), ("idle", 1)), (("busy", 1),)),
        ("end", "", (("busy", 1),), (("idle", 1), ("flour", 2))),
        ("bake", "bread", (("flour", 3),), ()),
        ("rain", "", (), (("grain", 1),)),
    ),
)

# Two that pass a key: its heaps have an end, and the last firing brings it to one at which nothing can.
DOOR = read_net([
    "place idle 1",
    "place key 1",
    "place room 0",
    "place lost 0",
    "fire enter as go : idle + key -> room",
    "fire leave : room -> idle + key",
    "fire lose as oh : key -> lost",
])
DOOR_HEAPS = [(1, 1, 0, 0), (0, 0, 1, 0), (1, 0, 0, 1)]
DOOR_STEPS = [[("enter", 1), ("lose", 2)], [("leave", 0)], []]
# A well without an end: of "deep" there is ever more, of "pail" never more than one.
WELL = read_net([
    "place pail 1",
    "place full 0",
    "place deep 0",
    "fire draw : pail -> full",
    "fire pour : full -> pail + deep",
    "fire drink : 2 deep -> 0",
])
# Things of many kinds, none of which is a paper, a stair, a sum.
STRANGE = [None, True, False, 0, 1, -1, "", "row", "never", (), [], ("row",), ("never",), ["row", []], ("",), (None, None),
           ("row", [], []), ("never", [], []), ("way", []), (True, []), (("row", []),), [("row", [])], ("Row", []),
           (["row"], []), ((), ()), ("row", None), ("row", ()), ("row", "row"), ("row", 0), ("row", True),
           ("never", None), ("never", ()), ("never", ""), ("never", 0), ("row", [None]), ("row", [""]), ("row", [0]),
           ("row", [[]]), ("row", [("enter",)]), ("row", [True]), ("never", [None]), ("never", [()]), ("never", [[]]),
           ("never", [""]), ("never", [0])]

# What is no net, with what net_wrong tells of it; each also stands for what callers refuse with NoNet.
NO_NETS = [
    (None, ("net",)),
    (True, ("net",)),
    (0, ("net",)),
    (-5, ("net",)),
    ("", ("net",)),
    ("ab", ("net",)),
    ([], ("net",)),
    ((), ("net",)),
    (((),), ("net",)),
    (((), ()), ("net",)),
    ([(("a", 1),), ()], ("net",)),
    (([("a", 1)], ()), ("net",)),
    (((("a", 1),), []), ("net",)),
    (((("a", 1),),), ("net",)),
    (((("a", 1),), (), ()), ("net",)),
    (("a", ()), ("net",)),
    (((("a", 1),), ""), ("net",)),
    (((("a", 1),), None), ("net",)),
    ((None, None), ("net",)),
    (((("a", 1),), (None,)), ("firing", 0)),
    (((1, 2), ()), ("place", 0)),
]


def is_fresh(tell):
    """Whether a list or dict that was told may be changed, and the same is told again."""
    first = tell()
    kept = first.copy()
    second = tell()
    first.clear()
    return second == kept and tell() == kept and first is not second


def changed(thing):
    """Changes a told list or dict, whatever is in it."""
    if isinstance(thing, (list, dict, tuple)):
        for inner in list(thing.values() if isinstance(thing, dict) else thing):
            changed(inner)
    if isinstance(thing, (list, dict)):
        thing.clear()


def is_deeply_fresh(tell):
    """Whether what was told may be changed, lists within lists and tuples too, and the same is told again."""
    first = tell()
    kept = copy.deepcopy(first)
    changed(first)
    return tell() == kept


def ring(places, tokens):
    """A net whose tokens go round: it has as many heaps as ways to lay them on the places."""
    told = tuple([(f"p{k}", tokens if k == 0 else 0) for k in range(places)])
    fires = [(f"t{k}", "", ((f"p{k}", 1),), ((f"p{(k + 1) % places}", 1),)) for k in range(places)]
    return (told, tuple(fires))


def net_by_chance(chance, places=4, firings=5, start=3, count=2, parts=2):
    """A net of so many places and firings at most, with starts and counts from 0 and 1 to those."""
    told = tuple([(f"p{k}", chance.randrange(start + 1)) for k in range(chance.randrange(1, places + 1))])
    fires = []
    for k in range(chance.randrange(1, firings + 1)):
        sides = []
        for _ in range(2):
            numbers = sorted(chance.sample(range(len(told)), min(len(told), chance.randrange(parts + 1))))
            sides.append(tuple([(told[at][0], chance.randrange(1, count + 1)) for at in numbers]))
        fires.append((f"t{k}", "", *sides))
    return (told, tuple(fires))


def machines(chance, many=3, states=3, firings=6):
    """A plain net: machines, each with one token on one of its places, and firings that move those of some of them."""
    sizes = [chance.randrange(2, states + 1) for _ in range(chance.randrange(1, many + 1))]
    stands = [(machine, state) for machine, size in enumerate(sizes) for state in range(size)]
    chance.shuffle(stands)
    places = tuple([(f"p{machine}{state}", int(state == 0)) for machine, state in stands])
    fires = []
    for k in range(chance.randrange(2, firings + 1)):
        moved = chance.sample(range(len(sizes)), min(len(sizes), chance.choice([1, 1, 1, 2, 2, 3])))
        takes = sorted([stands.index((machine, chance.randrange(sizes[machine]))) for machine in moved])
        gives = sorted([stands.index((machine, chance.randrange(sizes[machine]))) for machine in moved
                        if chance.random() < 0.9])
        fires.append((f"t{k}", "", *[tuple([(places[at][0], 1) for at in side]) for side in (takes, gives)]))
    return (places, tuple(fires))
