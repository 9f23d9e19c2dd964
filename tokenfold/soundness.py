"""Works: whether whatever a net does from its source on can end at its sink, and leaves nothing behind."""

from tokenfold.closed import away_wrong, closure, distances, down_wrong, is_lot, is_numbered, led_away_wrong
from tokenfold.errors import NoPlace
from tokenfold.firing import is_over, lacking, led_by, wires_of
from tokenfold.nets import check_net, check_places, is_whole
from tokenfold.papers import is_names, is_paper, row_wrong, stuck_at
from tokenfold.reach import MOST_HEAPS
from tokenfold.search import Search


def check_work(net, source, sink):
    """Refuses what is no net, then what are no two places of it."""
    check_net(net)
    check_places(net, [source, sink])
    if sink == source:
        raise NoPlace(sink)


def one_in(net, place):
    """The heap with 1 in the place and 0 elsewhere."""
    return tuple([1 if name == place else 0 for name, _ in net[0]])


def is_beyond(heap, end):
    """Whether the heap has 1 or more where the end has its 1, and isn't the end."""
    return heap != end and is_over(heap, end)


def less_ahead(search, number):
    """The last heap on the way to that one that has somewhere less, and nowhere more; None where there is none."""
    heap = search.heaps[number]
    ahead = search.ahead_of(number)
    while ahead is not None:
        # Two heaps of a search are unlike.
        if is_over(heap, search.heaps[ahead]):
            return ahead
        ahead = search.ahead_of(ahead)
    return None


def sound(net, source, sink, *, most=MOST_HEAPS):
    """The paper that shows that the work is sound, or isn't."""
    check_work(net, source, sink)
    end = one_in(net, sink)
    search = Search(net, one_in(net, source), most)
    last = search.run(lambda number: is_beyond(search.heaps[number], end) or less_ahead(search, number) is not None)
    if last is None:
        return sound_within(net, search, end)
    row = search.row_to(last)
    if is_beyond(search.heaps[last], end):
        return ("over", row)
    begun = len(search.row_to(less_ahead(search, last)))
    return ("grows", row[:begun], row[begun:])


def sound_within(net, search, end):
    """The paper of a work all heaps of which were gone through, none of them beyond the end."""
    depths = distances(search, [number for number, heap in enumerate(search.heaps) if heap == end])
    if None in depths:
        stuck = depths.index(None)
        return ("stuck", search.row_to(stuck), closure(search, stuck))
    firsts = {}
    for number, leads in enumerate(search.steps):
        for name, _ in leads:
            firsts.setdefault(name, number)
    for firing in net[1]:
        if firing[0] not in firsts:
            return ("dead", firing[0], search.heaps)
    return ("sound", list(zip(search.heaps, depths)), [firsts[firing[0]] for firing in net[1]])


def sound_wrong(net, source, sink, paper):
    """None where the paper shows that the work is sound, or isn't, else the first of what isn't so."""
    check_work(net, source, sink)
    if not is_sound_paper(net, paper):
        return ("paper",)
    word = paper[0]
    begin = one_in(net, source)
    end = one_in(net, sink)
    if word == "sound":
        return all_wrong(net, begin, end, paper[1], paper[2])
    if word == "stuck":
        return led_away_wrong(net, begin, paper[1], paper[2], lambda heap: heap == end)
    if word == "over":
        return row_wrong(net, begin, paper[1], lambda heap: is_beyond(heap, end))
    if word == "grows":
        return grows_wrong(net, begin, paper[1], paper[2])
    taken, _ = wires_of(net)[paper[1]]
    return away_wrong(net, begin, paper[2], lambda heap: lacking(heap, taken) is None)


def is_sound_paper(net, paper):
    """Whether it is by form what sound tells."""
    if is_paper(paper, "over", 2):
        return is_names(paper[1], net[1])
    if is_paper(paper, "grows", 3):
        return is_names(paper[1], net[1]) and is_names(paper[2], net[1])
    if is_paper(paper, "stuck", 3):
        return is_names(paper[1], net[1]) and is_lot(net, paper[2])
    if is_paper(paper, "dead", 3):
        return is_names([paper[1]], net[1]) and is_lot(net, paper[2])
    return is_paper(paper, "sound", 3) and is_numbered(net, paper[1]) and is_firsts(net, paper[1], paper[2])


def is_firsts(net, rows, thing):
    """Whether it is a list of as many places in the rows as there are firings."""
    if not isinstance(thing, list) or len(thing) != len(net[1]):
        return False
    return all([is_whole(number) and 0 <= number < len(rows) for number in thing])


def all_wrong(net, begin, end, rows, firsts):
    """None where the rows step down to the end, none of them is beyond it, and each firing can at its first."""
    wrong = down_wrong(net, begin, rows, lambda heap: heap == end)
    if wrong is not None:
        return wrong
    for k, (heap, _) in enumerate(rows):
        if is_beyond(heap, end):
            return ("sink", k)
    wires = wires_of(net)
    for k, firing in enumerate(net[1]):
        if lacking(rows[firsts[k]][0], wires[firing[0]][0]) is not None:
            return ("first", k)
    return None


def grows_wrong(net, begin, row, loop):
    """None where the loop leads from where the row does to a heap that has somewhere more, and nowhere less."""
    at = stuck_at(net, begin, row + loop)
    if at is not None:
        return ("row", at)
    heap = led_by(net, begin, row)
    behind = led_by(net, heap, loop)
    return None if behind != heap and is_over(behind, heap) else ("end",)
