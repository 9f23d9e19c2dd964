"""What papers are made of, and what their judges ask alike."""

from tokenfold.errors import Stuck
from tokenfold.firing import heap_flaw, lacking, led_by, moved, wires_of
from tokenfold.nets import is_tuple_of, numbers_of


def is_paper(thing, word, many):
    """Whether it is a tuple of so many things, the word ahead."""
    return is_tuple_of(thing, many) and thing[0] == word


def is_names(thing, named):
    """Whether it is a list of names of these places, or firings."""
    numbers = numbers_of(named)
    return isinstance(thing, list) and all([isinstance(name, str) and name in numbers for name in thing])


def is_pairs(thing, named):
    """Whether it is a list of tuples of two lists of names of these places, or firings."""
    if not isinstance(thing, list) or not all([is_tuple_of(pair, 2) for pair in thing]):
        return False
    return all([is_names(one, named) and is_names(other, named) for one, other in thing])


def is_heaps(net, thing):
    """Whether it is a list of heaps of the net."""
    return isinstance(thing, list) and all([heap_flaw(net, heap) is None for heap in thing])


def stuck_at(net, heap, row):
    """Where the first of the row's firings stands that can't where the others led; None where all can."""
    try:
        led_by(net, heap, row)
    except Stuck as stuck:
        return stuck.at
    return None


def row_wrong(net, begin, row, ends):
    """None where the row can be gone from the begin, to a heap of which ends is so, else the first of what isn't so."""
    at = stuck_at(net, begin, row)
    if at is not None:
        return ("row", at)
    return None if ends(led_by(net, begin, row)) else ("end",)


def leading_out(net, heaps):
    """The first heap's number, and the firing, that leads to a heap that isn't among them; None where none does."""
    there = {heap: True for heap in heaps}
    wires = wires_of(net)
    for k, heap in enumerate(heaps):
        for name, (taken, given) in wires.items():
            if lacking(heap, taken) is None and moved(heap, taken, given) not in there:
                return (k, name)
    return None
