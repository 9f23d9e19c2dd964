"""Searches through the heaps that rows lead to from a begin on."""

from tokenfold.errors import TooGreat
from tokenfold.firing import lacking, moved, wires_of


class Search:
    """Heaps in the order in which they are come to first, the begin ahead.

    Of each that was gone through, steps has the tuples (name, number of the heap behind it) of all firings that can;
    of each that was found, origins has the heap and the firing by which it was come to first, None of the begin.
    """

    def __init__(self, net, begin, most):
        self.wires = wires_of(net)
        self.most = most
        self.heaps = []
        self.origins = []
        self.steps = []
        self.numbers = {}
        self.put(begin, None)

    def put(self, heap, origin):
        """Puts a new heap behind the others, which are refused beyond most."""
        if len(self.heaps) >= self.most:
            raise TooGreat(self.most)
        self.numbers[heap] = len(self.heaps)
        self.heaps.append(heap)
        self.origins.append(origin)

    def led(self, at, taken, given):
        """What a firing that takes and gives so leads to from that heap."""
        return moved(self.heaps[at], taken, given)

    def run(self, ends):
        """Goes on to the first number at which ends is so, and tells it; None where all heaps are gone through."""
        if ends(0):
            return 0
        number = None
        while number is None and not self.is_done():
            number = self.go_on(ends)
        return number

    def is_done(self):
        """Whether all heaps that were found are gone through."""
        return len(self.steps) == len(self.heaps)

    def go_on(self, ends):
        """Goes through the next heap, to the first new number at which ends is so, and tells it; None without one."""
        at = len(self.steps)
        leads = []
        self.steps.append(leads)
        for name, (taken, given) in self.wires.items():
            if lacking(self.heaps[at], taken) is not None:
                continue
            behind = self.led(at, taken, given)
            is_new = behind not in self.numbers
            if is_new:
                self.put(behind, (at, name))
            leads.append((name, self.numbers[behind]))
            if is_new and ends(self.numbers[behind]):
                return self.numbers[behind]
        return None

    def take_over(self, other):
        """Stands as the other one, which goes on by itself."""
        self.heaps = list(other.heaps)
        self.origins = list(other.origins)
        self.steps = list(other.steps)
        self.numbers = {heap: number for number, heap in enumerate(other.heaps)}

    def ahead_of(self, number):
        """The number of the heap ahead on the way by which that one was come to first; None of the begin."""
        origin = self.origins[number]
        return None if origin is None else origin[0]

    def way_to(self, number):
        """The numbers of all heaps on the way by which that one was come to first, from the begin to it."""
        numbers = []
        while number is not None:
            numbers.append(number)
            number = self.ahead_of(number)
        return numbers[::-1]

    def row_to(self, number):
        """The row by which that heap was come to first."""
        return [self.origins[k][1] for k in self.way_to(number)[1:]]


def searched(net, begin, most):
    """The search that has gone through all heaps that rows lead to from the begin on."""
    search = Search(net, begin, most)
    search.run(lambda number: False)
    return search
