"""Nets that several tests use."""

MILL_TEXT = [
    "-- a mill with two workers",
    "place grain 3",
    "place idle 2",
    "place busy 0",
    "place flour 0",
    "fire begin as go : grain + idle -> busy",
    "fire end : busy -> idle + 2 flour",
    "fire bake as bread : 3 flour -> 0",
    "fire rain : 0 -> grain",
]

MILL = (
    (("grain", 3), ("idle", 2), ("busy", 0), ("flour", 0)),
    (
        ("begin", "go", (("grain", 1), ("idle", 1)), (("busy", 1),)),
        ("end", "", (("busy", 1),), (("idle", 1), ("flour", 2))),
        ("bake", "bread", (("flour", 3),), ()),
        ("rain", "", (), (("grain", 1),)),
    ),
)

# What is no net, with what net_wrong tells of it; each also stands for what callers refuse with NoNet.
NO_NETS = [
    (None, ("net",)),
    (True, ("net",)),
    (0, ("net",)),
    (-5, ("net",)),
    ("", ("net",)),
    ("ab", ("net",)),
    ([], ("net",)),
    ((), ("net",)),
    (((),), ("net",)),
    (((), ()), ("net",)),
    ([(("a", 1),), ()], ("net",)),
    (([("a", 1)], ()), ("net",)),
    (((("a", 1),), []), ("net",)),
    (((("a", 1),),), ("net",)),
    (((("a", 1),), (), ()), ("net",)),
    (("a", ()), ("net",)),
    (((("a", 1),), ""), ("net",)),
    (((("a", 1),), None), ("net",)),
    ((None, None), ("net",)),
    (((("a", 1),), (None,)), ("firing", 0)),
    (((1, 2), ()), ("place", 0)),
]


def is_fresh(tell):
    """Whether a list or dict that was told may be changed, and the same is told again."""
    first = tell()
    kept = first.copy()
    second = tell()
    first.clear()
    return second == kept and tell() == kept and first is not second
