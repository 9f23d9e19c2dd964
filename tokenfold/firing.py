"""Heaps, and what firings make of them, one by one, at once, and by whose tokens."""

from tokenfold.errors import NoBag, NoFiring, NoHeap, NoNumber, NotApart, Stuck
from tokenfold.nets import check_net, is_tuple_of, is_whole, numbers_of


def heap_wrong(net, thing):
    """None where it is a heap of the net, else the first of what isn't so."""
    check_net(net)
    return heap_flaw(net, thing)


def heap_flaw(net, thing):
    """What heap_wrong tells, of what is known to be a net."""
    if not is_tuple_of(thing, len(net[0])):
        return ("heap",)
    for k, count in enumerate(thing):
        if not is_whole(count) or count < 0:
            return ("place", k)
    return None


def check_heap(net, heap):
    """Refuses what is no net, then what is no heap of it."""
    wrong = heap_wrong(net, heap)
    if wrong is not None:
        raise NoHeap(wrong)


def check_row(net, row):
    """Refuses the first name that no firing of the net has."""
    numbers = numbers_of(net[1])
    for name in row:
        if not isinstance(name, str) or name not in numbers:
            raise NoFiring(name)


def start_heap(net):
    """The heap of the places' starts."""
    check_net(net)
    return tuple([start for _, start in net[0]])


def wires_of(net):
    """From the firings' names to what they take and what they give, as lists of tuples (place's number, count)."""
    numbers = numbers_of(net[0])
    wires = {}
    for name, _, takes, gives in net[1]:
        taken = [(numbers[place], count) for place, count in takes]
        given = [(numbers[place], count) for place, count in gives]
        wires[name] = (taken, given)
    return wires


def lacking(heap, taken):
    """The number of the first place at which the heap has less than is taken; None where it has enough.

    The None of a wide heap, here and in what rests on this, is always enough, and stays None.
    """
    for at, count in taken:
        if heap[at] is not None and heap[at] < count:
            return at
    return None


def moved(heap, taken, given):
    """The heap with what is taken less, and what is given more."""
    counts = list(heap)
    for at, count in taken:
        if counts[at] is not None:
            counts[at] -= count
    for at, count in given:
        if counts[at] is not None:
            counts[at] += count
    return tuple(counts)


def is_over(heap, other):
    """Whether the heap has at each place not less than the other one."""
    for many, few in zip(heap, other):
        if many is not None and (few is None or many < few):
            return False
    return True


def step(net, heap, wire, at):
    """The heap behind the firing with that number in its row, which is stuck where too little is there."""
    taken, given = wire
    short = lacking(heap, taken)
    if short is not None:
        raise Stuck(at, net[0][short][0])
    return moved(heap, taken, given)


def led_by(net, heap, row):
    """The heap behind all of a row of the net's firings."""
    wires = wires_of(net)
    for at, name in enumerate(row):
        heap = step(net, heap, wires[name], at)
    return heap


def can(net, heap):
    """The names of all firings that can at the heap, in order."""
    check_heap(net, heap)
    wires = wires_of(net)
    return [name for name in wires if lacking(heap, wires[name][0]) is None]


def fired(net, heap, name):
    """The heap behind that firing."""
    return gone(net, heap, [name])


def gone(net, heap, row):
    """The heap behind all firings of the row, one by one."""
    check_heap(net, heap)
    check_row(net, row)
    return led_by(net, heap, row)


def words(net, row):
    """The labels of the row's firings, without those of silent ones."""
    check_net(net)
    check_row(net, row)
    return labels_along(net, row)


def labels_along(net, row):
    """What words tells, of what is known to be a row of the net's firings."""
    labels = {firing[0]: firing[1] for firing in net[1]}
    return [labels[name] for name in row if labels[name] != ""]


def is_bag(net, thing):
    """Whether it is a bag of the net's firings."""
    if not isinstance(thing, tuple):
        return False
    numbers = numbers_of(net[1])
    last = -1
    for part in thing:
        if not is_tuple_of(part, 2):
            return False
        name, count = part
        if not isinstance(name, str) or numbers.get(name, -1) <= last:
            return False
        if not is_whole(count) or count < 1:
            return False
        last = numbers[name]
    return True


def together(net, bag, side):
    """What all of the bag take (side 0) or give (side 1) together, as tuples (place's number, count)."""
    wires = wires_of(net)
    counts = [0] * len(net[0])
    for name, many in bag:
        for at, count in wires[name][side]:
            counts[at] += many * count
    return list(enumerate(counts))


def at_once(net, heap, bag):
    """The heap behind all firings of the bag, which can at once."""
    check_heap(net, heap)
    if not is_bag(net, bag):
        raise NoBag()
    return step(net, heap, (together(net, bag, 0), together(net, bag, 1)), 0)


class Queue:
    """One place's tokens, the oldest ahead.

    Tokens of one maker stand side by side as one entry: a place may have more of them than could be held one by one.
    """

    def __init__(self, many):
        self.makers = [None]
        self.counts = [many]
        self.oldest = 0

    def give(self, maker, many):
        """Puts so many of that maker's tokens at the end."""
        self.makers.append(maker)
        self.counts.append(many)

    def take(self, many):
        """Takes so many of the oldest and tells their makers, None of the start's."""
        makers = []
        while many > 0:
            part = min(many, self.counts[self.oldest])
            if part > 0:
                makers.append(self.makers[self.oldest])
            self.counts[self.oldest] -= part
            many -= part
            if many > 0:
                self.oldest += 1
        return makers


def process(net, row):
    """The causes of each deed of the row from the start on, each a tuple of numbers, rising."""
    start = start_heap(net)
    gone(net, start, row)
    wires = wires_of(net)
    queues = [Queue(many) for many in start]
    causes = []
    for k, name in enumerate(row):
        taken, given = wires[name]
        makers = []
        for at, count in taken:
            makers.extend(queues[at].take(count))
        for at, count in given:
            queues[at].give(k, count)
        causes.append(tuple(sorted({maker for maker in makers if maker is not None})))
    return causes


def layers(net, row):
    """The numbers of the row's deeds by layers: without causes, then behind the greatest of their causes' layers."""
    found = []
    depths = []
    for k, causes in enumerate(process(net, row)):
        depth = max([depths[cause] + 1 for cause in causes], default=0)
        if depth == len(found):
            found.append([])
        found[depth].append(k)
        depths.append(depth)
    return found


def swapped(net, row, k):
    """The row with the k-th and the next deed exchanged, neither of which needs the other ahead of it."""
    causes = process(net, row)
    if not is_whole(k) or k < 0 or k + 1 >= len(row):
        raise NoNumber()
    if k in causes[k + 1]:
        raise NotApart()
    exchanged = list(row)
    exchanged[k] = row[k + 1]
    exchanged[k + 1] = row[k]
    return exchanged
