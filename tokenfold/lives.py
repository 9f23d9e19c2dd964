"""Firings that live, and heaps that are home."""

from tokenfold.closed import away_wrong, backward, closure, distances, down_wrong, is_lot, is_numbered
from tokenfold.closed import led_away_wrong, spread
from tokenfold.firing import check_heap, check_row, lacking, start_heap, wires_of
from tokenfold.nets import check_net
from tokenfold.papers import is_names, is_paper, row_wrong
from tokenfold.reach import MOST_HEAPS
from tokenfold.search import searched


def check_firing(net, name):
    """Refuses what is no net, then a name that no firing of it has."""
    check_net(net)
    check_row(net, [name])


def life(net, name, *, most=MOST_HEAPS):
    """The paper that shows whether the firing lives: can again from wherever the net comes to."""
    check_firing(net, name)
    search = searched(net, start_heap(net), most)
    goals = [number for number, leads in enumerate(search.steps) if name in [one for one, _ in leads]]
    if len(goals) == 0:
        return ("dead", search.heaps)
    depths = distances(search, goals)
    if None not in depths:
        return ("live", list(zip(search.heaps, depths)))
    lost = depths.index(None)
    return ("some", search.row_to(goals[0]), search.row_to(lost), closure(search, lost))


def life_wrong(net, name, paper):
    """None where the paper shows whether the firing lives, else the first of what isn't so."""
    check_firing(net, name)
    start = start_heap(net)
    taken, _ = wires_of(net)[name]

    def can_there(heap):
        return lacking(heap, taken) is None

    if is_paper(paper, "live", 2) and is_numbered(net, paper[1]):
        return down_wrong(net, start, paper[1], can_there)
    if is_paper(paper, "dead", 2) and is_lot(net, paper[1]):
        return away_wrong(net, start, paper[1], can_there)
    if not is_some(net, paper):
        return ("paper",)
    _, row, other, heaps = paper
    wrong = row_wrong(net, start, row, can_there)
    if wrong is None:
        wrong = led_away_wrong(net, start, other, heaps, can_there, counted=len(row))
    return wrong


def is_some(net, paper):
    """Whether it is by form what life tells of a firing that can, and then perhaps never again."""
    if not is_paper(paper, "some", 4):
        return False
    return is_names(paper[1], net[1]) and is_names(paper[2], net[1]) and is_lot(net, paper[3])


def homes(net, *, most=MOST_HEAPS):
    """All heaps to which rows lead from each heap that is come to, in the order of reach."""
    search = searched(net, start_heap(net), most)
    leads = backward(search)
    depths = [None] * len(search.heaps)
    last = 0
    for number in range(len(search.heaps)):
        if depths[number] is None:
            spread(leads, [number], depths)
            last = number
    # Where a heap is home, all others are reached back with it: so no number is taken behind that from which it was.
    return closure(search, last) if None not in distances(search, [last]) else []


def home(net, heap, *, most=MOST_HEAPS):
    """The paper that shows whether rows lead to the heap from wherever the net comes to."""
    check_heap(net, heap)
    search = searched(net, start_heap(net), most)
    goals = [number for number, one in enumerate(search.heaps) if one == heap]
    depths = distances(search, goals)
    if None not in depths:
        return ("home", list(zip(search.heaps, depths)))
    lost = depths.index(None)
    return ("away", search.row_to(lost), closure(search, lost))


def home_wrong(net, heap, paper):
    """None where the paper shows whether the heap is home, else the first of what isn't so."""
    check_heap(net, heap)
    start = start_heap(net)
    if is_paper(paper, "home", 2) and is_numbered(net, paper[1]):
        return down_wrong(net, start, paper[1], lambda one: one == heap)
    if is_paper(paper, "away", 3) and is_names(paper[1], net[1]) and is_lot(net, paper[2]):
        return led_away_wrong(net, start, paper[1], paper[2], lambda one: one == heap)
    return ("paper",)
