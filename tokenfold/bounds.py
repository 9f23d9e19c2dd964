"""What is bounded: the widest heaps, and stairs that lead to wide ones."""

from tokenfold.errors import NoStair, Stuck, TooGreat
from tokenfold.firing import is_over, lacking, led_by, moved, start_heap, wires_of
from tokenfold.nets import check_net, check_places, is_tuple_of, is_whole, numbers_of
from tokenfold.papers import is_pairs, is_paper
from tokenfold.reach import MOST_HEAPS
from tokenfold.search import Search

FEW_HEAPS = 32


def weight(heap):
    """How many None the wide heap has, and the sum of its counts: of two, the one over the other has the greater."""
    if None not in heap:
        return (0, sum(heap))
    counts = [count for count in heap if count is not None]
    return (len(heap) - len(counts), sum(counts))


def widened(heap, other):
    """The heap with None where it has more than the other one, over which it is."""
    return tuple([many if many == few else None for many, few in zip(heap, other)])


class Growth(Search):
    """The search through all grown heaps.

    Of those that got None, loops has the numbers of the heaps on the way to them by which they got it, one by one.
    """

    def __init__(self, net, most):
        self.weights = []
        self.loops = {}
        Search.__init__(self, net, start_heap(net), most)
        self.go_through(FEW_HEAPS)
        # Where the heaps have an end none gets None, and looking for it along each way would take long. That they have
        # none shows late: so it isn't asked of more heaps than are quickly gone through, nor where one has None.
        if not self.is_done() and not self.has_none():
            self.take_to_the_end(net, min(most, MOST_HEAPS))
        self.run(lambda number: False)

    def go_through(self, many):
        """Goes through the heaps till so many are gone through, or all."""
        while len(self.steps) < many and not self.is_done():
            self.go_on(lambda number: False)

    def has_none(self):
        """Whether a heap that was found has None somewhere."""
        return any([None in heap for heap in self.heaps])

    def take_to_the_end(self, net, most):
        """Where the heaps, none of which has None yet, have an end among the first most, goes on to it."""
        search = Search(net, start_heap(net), most)
        search.take_over(self)
        try:
            search.run(lambda number: False)
        except TooGreat:
            return
        self.take_over(search)

    def put(self, heap, origin):
        """Puts a new heap behind the others, with its weight."""
        super().put(heap, origin)
        self.weights.append(weight(heap))

    def led(self, at, taken, given):
        """What the firing leads to from that heap, with None wherever it gets it."""
        heap = moved(self.heaps[at], taken, given)
        by = self.loop_of(heap, at)
        loops = []
        while by is not None:
            loops.append(by)
            heap = widened(heap, self.heaps[by])
            by = self.loop_of(heap, at)
        if heap not in self.numbers:
            self.loops[heap] = loops
        return heap

    def loop_of(self, heap, number):
        """The first one, back from that one, by which the heap behind it gets None; None where there is none."""
        own = weight(heap)
        while number is not None:
            other = self.heaps[number]
            # Most are told apart by the weights, which is quick.
            if self.weights[number] < own and is_over(heap, other) and widened(heap, other) != heap:
                return number
            number = self.ahead_of(number)
        return None

    def stair_to(self, number):
        """The stair by which that heap was first found."""
        numbers = self.way_to(number)
        names = self.row_to(number)
        stair = []
        passed = 0
        for at, k in enumerate(numbers):
            for by in self.loops.get(self.heaps[k], []):
                stair.append((names[passed:at], names[numbers.index(by):at]))
                passed = at
        if passed < len(names):
            stair.append((names[passed:], []))
        return stair

    def widest_heaps(self):
        """Those under no other one, in order, None behind all counts."""
        kept = []
        for heap in sorted(self.heaps, key=weight, reverse=True):
            own = weight(heap)
            if not is_under_one(heap, [other for heavy, other in kept if heavy > own]):
                kept.append((own, heap))
        return sorted([heap for _, heap in kept], key=rank_of)


def is_under_one(heap, others):
    """Whether the wide heap is under one of the others."""
    for other in others:
        if is_over(other, heap):
            return True
    return False


def rank_of(heap):
    """By what wide heaps are in order: None is behind all counts."""
    return tuple([(1, 0) if count is None else (0, count) for count in heap])


def widest(net, *, most=MOST_HEAPS):
    """The widest heaps: just what is under one of them is under a heap that some row leads to."""
    check_net(net)
    return Growth(net, most).widest_heaps()


def endless(net, *, most=MOST_HEAPS):
    """The names of the places of which no count is the greatest, in order."""
    check_net(net)
    heaps = Growth(net, most).heaps
    return [name for k, (name, _) in enumerate(net[0]) if None in [heap[k] for heap in heaps]]


def bound(net, place, *, most=MOST_HEAPS):
    """The greatest count that the place comes to, or that there is none, with what shows it."""
    check_net(net)
    check_places(net, [place])
    growth = Growth(net, most)
    at = numbers_of(net[0])[place]
    counts = [heap[at] for heap in growth.heaps]
    if None in counts:
        return ("more", growth.stair_to(counts.index(None)))
    greatest = max(counts)
    return ("most", greatest, growth.stair_to(counts.index(greatest)), growth.widest_heaps())


def bound_wrong(net, place, thing):
    """None where it shows what the place comes to, else the first of what isn't so."""
    check_net(net)
    check_places(net, [place])
    at = numbers_of(net[0])[place]
    if is_paper(thing, "more", 2) and is_pairs(thing[1], net[1]):
        return stair_wrong(net, thing[1], at, None)
    if not is_paper(thing, "most", 4) or not is_count(thing[1]):
        return ("paper",)
    _, greatest, stair, wides = thing
    if not is_pairs(stair, net[1]) or not is_wides(net, wides):
        return ("paper",)
    wrong = stair_wrong(net, stair, at, greatest)
    if wrong is None:
        wrong = wides_wrong(net, wides)
    if wrong is None:
        wrong = most_wrong(wides, at, greatest)
    return wrong


def stair_wrong(net, stair, at, count):
    """None where the stair leads to a wide heap with that count, or None, at that place's number."""
    try:
        end = climbed(net, stair)
    except NoStair as fault:
        return fault.wrong
    return None if end[at] == count else ("end",)


def wides_wrong(net, wides):
    """None where the start, and what firings make of one of these, is under one of them."""
    if not is_under_one(start_heap(net), wides):
        return ("start",)
    wires = list(wires_of(net).values())
    under = {wide: True for wide in wides}
    for k, wide in enumerate(wides):
        for j, (taken, given) in enumerate(wires):
            if lacking(wide, taken) is not None:
                continue
            behind = moved(wide, taken, given)
            if behind not in under and not is_under_one(behind, wides):
                return ("fires", k, j)
            under[behind] = True
    return None


def most_wrong(wides, at, greatest):
    """None where none of these has more than that count at that place's number."""
    for k, wide in enumerate(wides):
        if wide[at] is None or wide[at] > greatest:
            return ("most", k)
    return None


def stair_end(net, stair):
    """The wide heap at the stair's end."""
    check_net(net)
    if not is_pairs(stair, net[1]):
        raise NoStair(("paper",))
    return climbed(net, stair)


def is_count(thing):
    """Whether it is a count of a heap."""
    return is_whole(thing) and thing >= 0


def is_wides(net, thing):
    """Whether it is a list of wide heaps of the net."""
    return isinstance(thing, list) and all([is_wide(net, wide) for wide in thing])


def is_wide(net, thing):
    """Whether it is a wide heap of the net."""
    return is_tuple_of(thing, len(net[0])) and all([count is None or is_count(count) for count in thing])


def climbed(net, stair):
    """The wide heap at the end of what is by form a stair."""
    heap = start_heap(net)
    for k, (row, loop) in enumerate(stair):
        heap = led_on(net, heap, row, ("row", k))
        if len(loop) > 0:
            behind = led_on(net, heap, loop, ("loop", k))
            if behind == heap or not is_over(behind, heap):
                raise NoStair(("over", k))
            heap = widened(behind, heap)
    return heap


def led_on(net, heap, row, part):
    """The wide heap behind a row that is that part of a stair."""
    try:
        return led_by(net, heap, row)
    except Stuck as stuck:
        raise NoStair((*part, stuck.at))
