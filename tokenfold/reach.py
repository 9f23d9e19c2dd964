"""All heaps that are come to."""

from tokenfold.firing import check_heap, start_heap
from tokenfold.papers import is_heaps, is_names, is_paper, leading_out, row_wrong
from tokenfold.search import Search, searched

MOST_HEAPS = 2000


def reach(net, *, most=MOST_HEAPS):
    """All heaps that are come to, and of each the firings that can, with the numbers of what they lead to."""
    search = searched(net, start_heap(net), most)
    return (search.heaps, search.steps)


def way(net, heap, *, most=MOST_HEAPS):
    """A shortest row from the start to the heap, or all heaps that are come to, where it isn't."""
    check_heap(net, heap)
    search = Search(net, start_heap(net), most)
    number = search.run(lambda found: search.heaps[found] == heap)
    if number is None:
        return ("never", search.heaps)
    return ("row", search.row_to(number))


def way_wrong(net, heap, thing):
    """None where it shows that the heap is come to, or isn't, else the first of what isn't so."""
    check_heap(net, heap)
    if is_paper(thing, "row", 2) and is_names(thing[1], net[1]):
        return row_wrong(net, start_heap(net), thing[1], lambda end: end == heap)
    if is_paper(thing, "never", 2) and is_heaps(net, thing[1]):
        return never_wrong(net, heap, thing[1])
    return ("paper",)


def never_wrong(net, heap, heaps):
    """None where the start is among the heaps, no firing leads out of them, and that heap isn't one of them."""
    if start_heap(net) not in heaps:
        return ("start",)
    out = leading_out(net, heaps)
    if out is not None:
        return ("open", out[0], out[1])
    return ("there",) if heap in heaps else None


def dead(net, *, most=MOST_HEAPS):
    """The heaps that are come to at which no firing can."""
    search = searched(net, start_heap(net), most)
    return [heap for heap, leads in zip(search.heaps, search.steps) if len(leads) == 0]


def stirring(net, *, most=MOST_HEAPS):
    """The names of the firings that can at some heap that is come to, in order."""
    search = searched(net, start_heap(net), most)
    stirred = {name: True for leads in search.steps for name, _ in leads}
    return [firing[0] for firing in net[1] if firing[0] in stirred]
