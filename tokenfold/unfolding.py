"""Unfoldings: what a plain net can come to, with each token and each deed told by those that are ahead of it."""

from heapq import heappop, heappush

from tokenfold.branches import Branches
from tokenfold.errors import NoEvents, NotPlain, TooGreat
from tokenfold.firing import start_heap
from tokenfold.nets import check_net, is_whole, numbers_of
from tokenfold.reach import MOST_HEAPS
from tokenfold.search import Search

MOST_EVENTS = 400


def plain_row(net, *, most=MOST_HEAPS):
    """None where the net is plain; else the row to a heap with 2 somewhere, or [] where its counts bar it."""
    check_net(net)
    if not is_single(net):
        return []
    search = Search(net, start_heap(net), most)
    number = search.run(lambda found: max(search.heaps[found]) > 1)
    return None if number is None else search.row_to(number)


def is_single(net):
    """Whether no count and no start is above 1, and each firing takes somewhat."""
    counts = [start for _, start in net[0]]
    for _, _, takes, gives in net[1]:
        if len(takes) == 0:
            return False
        counts.extend([count for _, count in takes + gives])
    return max(counts) <= 1


def check_plain(net):
    """Refuses what is no net, one of too many heaps, and one that isn't plain."""
    row = plain_row(net)
    if row is not None:
        raise NotPlain(row)


class Growing(Branches):
    """Branches that grow, by the order of the events' pasts.

    In the queue are all events that are to come of the conditions that are there. Each of them comes once: so more are
    never in it than may come.
    """

    def __init__(self, net, most):
        Branches.__init__(self, net)
        self.most = most
        self.queue = []
        # The heaps of the start and of the events' pasts.
        self.known = {self.begin: True}
        self.want(list(range(len(self.places))))

    def want(self, fresh):
        """Puts all events into the queue that take one of the new conditions."""
        passed = 0
        for condition in fresh:
            allowed = (self.together[condition] | 1 << condition) & ~passed
            for firing, (taken, _) in enumerate(self.sides):
                if self.places[condition] in taken:
                    self.put_wanted(firing, self.lots_of(taken, allowed))
            passed |= 1 << condition

    def put_wanted(self, firing, lots):
        """Puts an event of that firing into the queue for each lot of conditions."""
        if len(self.firings) + len(self.queue) + len(lots) > self.most:
            raise TooGreat(self.most)
        for takes in lots:
            heappush(self.queue, (self.rank_of(firing, takes), firing, takes))

    def grow(self):
        """Puts the first event of the queue; tells its firing, what it takes and gives, and whether it is cut."""
        _, firing, takes = heappop(self.queue)
        heap = self.heap_behind(firing, takes)
        is_cut = heap in self.known
        self.known[heap] = True
        gives = self.put_event(firing, takes, is_cut)
        if not is_cut:
            self.want(gives)
        return (firing, takes, tuple(gives), is_cut)


def unfold(net, *, most=MOST_EVENTS):
    """The unfolding of a plain net."""
    check_plain(net)
    growing = Growing(net, most)
    events = []
    while len(growing.queue) > 0:
        firing, takes, gives, is_cut = growing.grow()
        events.append((net[1][firing][0], takes, gives, is_cut))
    conditions = [(net[0][place][0], maker) for place, maker in zip(growing.places, growing.makers)]
    return (conditions, events)


def events_flaw(unfolding, numbers):
    """None where these are the numbers of a configuration's events, else the first of what isn't so."""
    conditions, events = unfolding
    places = {}
    for k, number in enumerate(numbers):
        if not is_whole(number) or number < 0 or number >= len(events) or number in places:
            return ("event", k)
        places[number] = k
    for k, number in enumerate(numbers):
        for condition in events[number][1]:
            maker = conditions[condition][1]
            if maker is not None and maker not in places:
                return ("past", k)
    return apart_flaw([events[number][1] for number in numbers])


def apart_flaw(lots):
    """None where no two of the lots have a condition in common, else the first two that have one."""
    first = {}
    pairs = []
    for j, takes in enumerate(lots):
        for condition in takes:
            if condition in first:
                pairs.append((first[condition], j))
            else:
                first[condition] = j
    if len(pairs) == 0:
        return None
    k, j = min(pairs)
    return ("apart", k, j)


def check_events(net, unfolding, events):
    """Refuses what is no net, then what are no numbers of a configuration's events."""
    check_net(net)
    wrong = events_flaw(unfolding, events)
    if wrong is not None:
        raise NoEvents(wrong)


def heap_of(net, unfolding, events):
    """The heap of the configuration of these events."""
    check_events(net, unfolding, events)
    conditions, told = unfolding
    there = {number: True for number in events}
    taken = {condition: True for number in events for condition in told[number][1]}
    numbers = numbers_of(net[0])
    counts = [0] * len(net[0])
    for condition, (place, maker) in enumerate(conditions):
        if condition not in taken and (maker is None or maker in there):
            counts[numbers[place]] += 1
    return tuple(counts)


def row_of(net, unfolding, events):
    """The names of the firings of these events, by the events' numbers."""
    check_events(net, unfolding, events)
    return [unfolding[1][number][0] for number in sorted(events)]
