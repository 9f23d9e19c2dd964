"""Closed lists of heaps, also with numbers that step down: how they are found, and what their judges ask of them."""

from tokenfold.firing import lacking, led_by, moved, wires_of
from tokenfold.nets import is_tuple_of, is_whole
from tokenfold.papers import is_heaps, leading_out, stuck_at


def onward(search):
    """Of each heap of the search the numbers of those to which firings lead from it."""
    return [[number for _, number in leads] for leads in search.steps]


def backward(search):
    """Of each heap of the search the numbers of those from which firings lead to it."""
    found = [[] for _ in search.heaps]
    for at, leads in enumerate(search.steps):
        for _, number in leads:
            found[number].append(at)
    return found


def spread(leads, begins, depths):
    """Puts into depths, where it has None, how many leads each number is behind one of the begins."""
    queue = list(begins)
    for number in begins:
        depths[number] = 0
    at = 0
    while at < len(queue):
        ahead = queue[at]
        for number in leads[ahead]:
            if depths[number] is None:
                depths[number] = depths[ahead] + 1
                queue.append(number)
        at += 1


def distances(search, goals):
    """Of each heap of the search how many firings lead to the nearest of the goals; None where no row does."""
    depths = [None] * len(search.heaps)
    spread(backward(search), goals, depths)
    return depths


def closure(search, number):
    """All heaps to which rows lead from that one, in the search's order."""
    depths = [None] * len(search.heaps)
    spread(onward(search), [number], depths)
    return [heap for heap, depth in zip(search.heaps, depths) if depth is not None]


def is_lot(net, thing):
    """Whether it is a list of unlike heaps."""
    return is_heaps(net, thing) and len({heap for heap in thing}) == len(thing)


def is_numbered(net, thing):
    """Whether it is a list of tuples (heap, number from 0 on), the heaps unlike."""
    if not isinstance(thing, list) or not all([is_tuple_of(row, 2) for row in thing]):
        return False
    return is_lot(net, heaps_of(thing)) and all([is_whole(number) and number >= 0 for _, number in thing])


def heaps_of(rows):
    """The heaps of a numbered list."""
    return [heap for heap, _ in rows]


def closed_wrong(net, begin, heaps):
    """None where the begin is one of the heaps, and firings lead from these to these alone."""
    if begin not in heaps:
        return ("begin",)
    out = leading_out(net, heaps)
    return None if out is None else ("follows", out[0], out[1])


def away_wrong(net, begin, heaps, is_bad):
    """None where the heaps are closed, with the begin, and none of them is bad."""
    wrong = closed_wrong(net, begin, heaps)
    if wrong is not None:
        return wrong
    for k, heap in enumerate(heaps):
        if is_bad(heap):
            return ("bad", k)
    return None


def led_away_wrong(net, begin, row, heaps, is_bad, counted=0):
    """None where the row, its firings counted on, leads to one of the heaps, which are closed, and none of them bad."""
    at = stuck_at(net, begin, row)
    if at is not None:
        return ("row", counted + at)
    return away_wrong(net, led_by(net, begin, row), heaps, is_bad)


def down_wrong(net, begin, rows, is_goal):
    """None where the numbered list is closed, with the begin, and steps down to goals."""
    wrong = closed_wrong(net, begin, heaps_of(rows))
    if wrong is not None:
        return wrong
    numbers = {heap: number for heap, number in rows}
    wires = list(wires_of(net).values())
    for k, (heap, number) in enumerate(rows):
        if not is_goal(heap) and not steps_down(heap, number, numbers, wires):
            return ("down", k)
    return None


def steps_down(heap, number, numbers, wires):
    """Whether a firing that can at the heap leads to one with a lesser number."""
    for taken, given in wires:
        if lacking(heap, taken) is None and numbers[moved(heap, taken, given)] < number:
            return True
    return False
