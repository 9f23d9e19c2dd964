"""Unfoldings made and asked slowly, word by word as the document tells them."""

import itertools


def taken(net, name):
    return [place for place, _ in next(firing for firing in net[1] if firing[0] == name)[2]]


def given(net, name):
    return [place for place, _ in next(firing for firing in net[1] if firing[0] == name)[3]]


def start_of(net):
    return [(place, None) for place, start in net[0] for _ in range(start)]


def past(unfolding, number):
    """The event and the pasts of all makers of what it takes."""
    conditions, events = unfolding
    found = {number}
    for condition in events[number][1]:
        if conditions[condition][1] is not None:
            found |= past(unfolding, conditions[condition][1])
    return found


def cut_of(unfolding, lot):
    conditions, events = unfolding
    gives = {condition for number in lot for condition in events[number][2]}
    takes = {condition for number in lot for condition in events[number][1]}
    return {k for k, (_, maker) in enumerate(conditions) if maker is None or k in gives} - takes


def heap_at(net, unfolding, lot):
    cut = cut_of(unfolding, lot)
    return tuple([sum(unfolding[0][k][0] == place for k in cut) for place, _ in net[0]])


def configurations(unfolding):
    """All of them, as sets of events, those with cut ones too."""
    found = {frozenset()}
    fresh = [frozenset()]
    while fresh:
        lot = fresh.pop()
        cut = cut_of(unfolding, lot)
        for number, (_, takes, _, _) in enumerate(unfolding[1]):
            if number not in lot and set(takes) <= cut and lot | {number} not in found:
                found.add(lot | {number})
                fresh.append(lot | {number})
    return found


def uncut(unfolding):
    return [lot for lot in configurations(unfolding) if not any(unfolding[1][number][3] for number in lot)]


def together(unfolding):
    """All pairs of conditions that stand together, each with itself, too."""
    return {(one, other) for lot in configurations(unfolding) for cut in [cut_of(unfolding, lot)]
            for one in cut for other in cut}


def layers_of(unfolding, lot):
    """The layers of a configuration's events."""
    conditions, events = unfolding
    passed, layers = set(), []
    while passed != lot:
        layer = {number for number in lot - passed
                 if all(conditions[c][1] is None or conditions[c][1] in passed for c in events[number][1])}
        layers.append(sorted(layer))
        passed |= layer
    return layers


def rank(net, unfolding, lot):
    """By what a configuration is in the order."""
    numbers = {firing[0]: k for k, firing in enumerate(net[1])}
    name = unfolding[1]
    told = [sorted(numbers[name[event][0]] for event in layer) for layer in layers_of(unfolding, lot)]
    return (len(lot), sorted(numbers[name[event][0]] for event in lot), [(len(layer), layer) for layer in told])


def wanted(net, unfolding):
    """All tuples (name, takes) of events that aren't there and may come, in order of the firings, then of what they take."""
    conditions, events = unfolding
    beside = together(unfolding)
    there = {(name, takes) for name, takes, _, _ in events}
    free = [k for k, (_, maker) in enumerate(conditions) if maker is None or not events[maker][3]]
    found = []
    for firing in net[1]:
        lots = [[k for k in free if conditions[k][0] == place] for place in taken(net, firing[0])]
        for takes in itertools.product(*lots):
            if (firing[0], takes) not in there and all(pair in beside for pair in itertools.product(takes, takes)):
                found.append((firing[0], takes))
    return found


def with_event(net, unfolding, name, takes, cut):
    """The unfolding with one more event."""
    conditions, events = unfolding
    fresh = [(place, len(events)) for place in given(net, name)]
    gives = tuple(range(len(conditions), len(conditions) + len(fresh)))
    return (conditions + fresh, events + [(name, takes, gives, cut)])


def unfolded(net, limit=40):
    """The net's unfolding; None where it has more events than the limit."""
    told = (start_of(net), [])
    while True:
        ways = []
        for name, takes in wanted(net, told):
            further = with_event(net, told, name, takes, False)
            lot = past(further, len(told[1]))
            ways.append((rank(net, further, lot), name, takes, heap_at(net, further, lot)))
        if not ways:
            return told
        if len(told[1]) == limit:
            return None
        _, name, takes, heap = min(ways)
        heaps = [heap_at(net, told, past(told, number)) for number in range(len(told[1]))] + [heap_at(net, told, set())]
        told = with_event(net, told, name, takes, heap in heaps)
