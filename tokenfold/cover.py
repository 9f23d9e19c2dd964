"""What is covered: whether a row leads over a heap."""

from tokenfold.errors import TooGreat
from tokenfold.firing import check_heap, is_over, lacking, moved, start_heap, wires_of
from tokenfold.papers import is_heaps, is_names, is_paper, row_wrong
from tokenfold.reach import MOST_HEAPS

END = "end"


class Lot:
    """Some heaps, of which is asked quickly whether a heap is over one of them.

    They stand as a tree of dicts: each heap is the way of the tuples (place, count) of its counts above 0, to an END.
    """

    def __init__(self, heaps):
        self.tree = {}
        for heap in heaps:
            self.put(heap)

    def put(self, heap):
        """Puts the heap to the others."""
        node = self.tree
        for place, count in enumerate(heap):
            if count > 0:
                node = node.setdefault((place, count), {})
        node[END] = True

    def is_under(self, heap):
        """Whether the heap is over one of these."""
        return is_led_to_an_end(self.tree, heap)


def is_led_to_an_end(node, heap):
    """Whether a way from there on, of counts that the heap has, or more, comes to an end."""
    if END in node:
        return True
    for part in node:
        place, count = part
        if heap[place] >= count and is_led_to_an_end(node[part], heap):
            return True
    return False


def before(wire, heap):
    """The least heap at which the firing can and leads over that heap."""
    taken, given = wire
    counts = list(heap)
    for at, count in given:
        counts[at] = max(counts[at] - count, 0)
    for at, count in taken:
        counts[at] += count
    return tuple(counts)


class Levels:
    """The levels of a heap, gone through from the first on, which has it alone.

    Of each level only those heaps are kept that the one ahead hasn't: what is before another one is over one of the
    level already.
    """

    def __init__(self, net, heap):
        self.wires = wires_of(net)
        self.level = [heap]
        self.fresh = [heap]
        self.known = Lot([heap])
        self.lots = [Lot([heap])]

    def go_on(self):
        """Goes to the next level."""
        ahead = {}
        for heap in self.fresh:
            for wire in self.wires.values():
                ahead[before(wire, heap)] = True
        fresh = []
        for heap in sorted(ahead, key=sum):
            if not self.known.is_under(heap):
                self.known.put(heap)
                fresh.append(heap)
        lot = Lot(fresh)
        self.level = [heap for heap in self.level if not lot.is_under(heap)] + fresh
        self.fresh = fresh
        self.lots.append(lot)

    def row_from(self, heap):
        """The first of the shortest rows that lead from there over the levels' heap, which has no shorter one."""
        names = []
        for lot in self.lots[-2::-1]:
            for name, (taken, given) in self.wires.items():
                if lacking(heap, taken) is None and lot.is_under(moved(heap, taken, given)):
                    names.append(name)
                    heap = moved(heap, taken, given)
                    break
        return names


def covered(net, heap, *, most=MOST_HEAPS):
    """A shortest row from the start over the heap, or, where there is none, the basis of all from which one leads."""
    check_heap(net, heap)
    start = start_heap(net)
    levels = Levels(net, heap)
    while not levels.lots[-1].is_under(start):
        if len(levels.fresh) == 0:
            return ("never", sorted(levels.level))
        if len(levels.level) > most or len(levels.lots) > most:
            raise TooGreat(most)
        levels.go_on()
    return ("row", levels.row_from(start))


def covered_wrong(net, heap, thing):
    """None where it shows that a row leads over the heap, or none does, else the first of what isn't so."""
    check_heap(net, heap)
    if is_paper(thing, "row", 2) and is_names(thing[1], net[1]):
        return row_wrong(net, start_heap(net), thing[1], lambda end: is_over(end, heap))
    if is_paper(thing, "never", 2) and is_heaps(net, thing[1]):
        return never_wrong(net, heap, thing[1])
    return ("paper",)


def never_wrong(net, heap, basis):
    """None where the heap, and all that is before one of the basis, is over one of it, and the start over none."""
    lot = Lot(basis)
    if not lot.is_under(heap):
        return ("goal",)
    wires = list(wires_of(net).values())
    for k, one in enumerate(basis):
        for j, wire in enumerate(wires):
            if not lot.is_under(before(wire, one)):
                return ("before", k, j)
    start = start_heap(net)
    for k, one in enumerate(basis):
        if is_over(start, one):
            return ("start", k)
    return None
