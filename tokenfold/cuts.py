"""What is read off unfoldings: where their cuts lead, and whether one is whole."""

from tokenfold.bits import bits_of, numbers_in
from tokenfold.branches import Branches
from tokenfold.firing import check_heap
from tokenfold.nets import check_net, is_tuple_of, is_whole, numbers_of
from tokenfold.unfolding import check_plain


class Walk:
    """All cuts of configurations without cut events, as bits, as they are found, each with the events that led to it.

    What can happen on from a cut hangs on it alone: so of configurations with one cut the first one stands for all.
    """

    def __init__(self, net, unfolding):
        conditions, events = unfolding
        numbers = numbers_of(net[0])
        self.many = len(net[0])
        self.places = [numbers[place] for place, _ in conditions]
        # Of each event what it takes and gives, and whether it may not stand in a configuration.
        self.events = [(bits_of(takes), bits_of(gives), is_cut) for _, takes, gives, is_cut in events]
        self.lots = {bits_of([k for k, (_, maker) in enumerate(conditions) if maker is None]): 0}

    def run(self, ends):
        """Goes on to the first cut of which ends is so, and tells it; None where there is none."""
        queue = list(self.lots)
        at = 0
        while at < len(queue):
            cut = queue[at]
            if ends(cut):
                return cut
            for number, (takes, gives, is_cut) in enumerate(self.events):
                if takes & cut == takes and not is_cut:
                    behind = cut ^ takes | gives
                    if behind not in self.lots:
                        self.lots[behind] = self.lots[cut] | 1 << number
                        queue.append(behind)
            at += 1
        return None

    def heap_at(self, cut):
        """The heap of the configurations with that cut."""
        counts = [0] * self.many
        for condition in numbers_in(cut):
            counts[self.places[condition]] += 1
        return tuple(counts)

    def is_dead(self, cut):
        """Whether no event, cut ones too, takes of that cut."""
        return not any([takes & cut == takes for takes, _, _ in self.events])


def events_of(net, unfolding, heap):
    """The events, none cut, of a configuration of that heap; None where there is none."""
    check_heap(net, heap)
    walk = Walk(net, unfolding)
    cut = walk.run(lambda found: walk.heap_at(found) == heap)
    return None if cut is None else numbers_in(walk.lots[cut])


def dead_cuts(net, unfolding):
    """The heaps of configurations without cut events at which nothing can, sorted."""
    check_net(net)
    walk = Walk(net, unfolding)
    walk.run(lambda found: False)
    return sorted({walk.heap_at(cut) for cut in walk.lots if walk.is_dead(cut)})


def unfolding_wrong(net, thing):
    """None where it is an unfolding of the plain net that is whole, else the first of what isn't so."""
    check_plain(net)
    if not is_unfolding(net, thing):
        return ("form",)
    conditions, events = thing
    wrong = conditions_wrong(net, conditions, [event[0] for event in events])
    branches = Branches(net)
    if wrong is None:
        wrong = events_wrong(net, branches, events)
    if wrong is None:
        wrong = cuts_wrong(branches, events)
    if wrong is None:
        wrong = lack_of(net, branches)
    return wrong


def is_unfolding(net, thing):
    """Whether it is an unfolding by form, of the net's names."""
    if not is_tuple_of(thing, 2) or not isinstance(thing[0], list) or not isinstance(thing[1], list):
        return False
    conditions, events = thing
    places = numbers_of(net[0])
    firings = numbers_of(net[1])
    for condition in conditions:
        if not is_tuple_of(condition, 2) or not is_one_of(condition[0], places):
            return False
        if condition[1] is not None and not is_below(condition[1], len(events)):
            return False
    for event in events:
        if not is_tuple_of(event, 4) or not is_one_of(event[0], firings) or not isinstance(event[3], bool):
            return False
        if not is_lot(event[1], len(conditions)) or not is_lot(event[2], len(conditions)):
            return False
    return True


def is_one_of(thing, numbers):
    """Whether it is one of these names."""
    return isinstance(thing, str) and thing in numbers


def is_below(thing, many):
    """Whether it is the number of one of so many."""
    return is_whole(thing) and 0 <= thing < many


def is_lot(thing, many):
    """Whether it is a tuple of numbers of so many conditions."""
    return isinstance(thing, tuple) and all([is_below(number, many) for number in thing])


def conditions_wrong(net, conditions, names):
    """None where the conditions are those of the start and what events of these firings give, one behind the other."""
    gives = {firing[0]: [place for place, _ in firing[3]] for firing in net[1]}
    told = [(place, None) for place, start in net[0] if start > 0]
    for number, name in enumerate(names):
        told.extend([(place, number) for place in gives[name]])
    if conditions == told:
        return None
    k = 0
    while k < min(len(told), len(conditions)) and conditions[k] == told[k]:
        k += 1
    return ("condition", k)


def events_wrong(net, branches, events):
    """None where each event may stand behind those ahead of it; puts them into the branches."""
    firings = numbers_of(net[1])
    for k, (name, takes, gives, is_cut) in enumerate(events):
        firing = firings[name]
        if not may_come(branches, firing, takes) or branches.put_event(firing, takes, is_cut) != list(gives):
            return ("event", k)
    return None


def may_come(branches, firing, takes):
    """Whether an event of that firing that takes these, and isn't there, may come behind those that are there."""
    taken = branches.sides[firing][0]
    if len(takes) != len(taken) or (firing, takes) in branches.numbers:
        return False
    allowed = -1
    for condition, place in zip(takes, taken):
        if (allowed & branches.lying[place]) >> condition & 1 == 0:
            return False
        allowed &= branches.together[condition]
    return True


def cuts_wrong(branches, events):
    """None where each event that is told cut has one ahead, or the start, whose past is first and of the same heap."""
    ranks = {}
    for k, (firing, (_, takes, _, is_cut)) in enumerate(zip(branches.firings, events)):
        heap = branches.heap_behind(firing, takes)
        rank = branches.rank_of(firing, takes)
        ahead = ranks.setdefault(heap, [])
        if is_cut and heap != branches.begin and not any([other < rank for other in ahead]):
            return ("cut", k)
        ahead.append(rank)
    return None


def lack_of(net, branches):
    """None where each firing has an event for all conditions that it can take, else the first that has none."""
    for firing, (taken, _) in enumerate(branches.sides):
        for takes in branches.lots_of(taken, -1):
            if (firing, takes) not in branches.numbers:
                return ("lacks", net[1][firing][0], takes)
    return None
