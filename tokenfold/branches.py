"""What an unfolding's conditions and events, put one behind the other, have to do with each other."""

from tokenfold.bits import bits_of, numbers_in
from tokenfold.firing import wires_of


class Branches:
    """Conditions and events of a plain net, each with a number, the first conditions there from the begin on.

    Places and firings stand in it by their numbers; sets of conditions, of events, of places are bits. What a cut
    event gives is there, but stands together with nothing, as nothing may take it.
    """

    def __init__(self, net):
        # Of each firing the numbers of the places of which it takes, and of those to which it gives.
        self.sides = []
        for taken, given in wires_of(net).values():
            self.sides.append(([at for at, _ in taken], [at for at, _ in given]))
        # Of each condition its place, its maker, and the conditions with which it stands together.
        self.places = []
        self.makers = []
        self.together = []
        # Of each place its conditions that may be taken.
        self.lying = [0] * len(net[0])
        # Of each event its firing, its past and the number of its layer.
        self.firings = []
        self.pasts = []
        self.depths = []
        # The number of the event of a firing that takes these conditions.
        self.numbers = {}
        marked = [at for at, (_, start) in enumerate(net[0]) if start > 0]
        self.begin = bits_of(marked)
        self.put_conditions(marked, None, 0, False)

    def put_conditions(self, places, maker, beside, is_cut):
        """Puts new conditions in these places, which stand together, and with those beside; tells their numbers."""
        numbers = [len(self.places) + k for k in range(len(places))]
        self.places.extend(places)
        self.makers.extend([maker] * len(places))
        if is_cut:
            self.together.extend([0] * len(places))
            return numbers
        fresh = bits_of(numbers)
        for number, place in zip(numbers, places):
            self.together.append(beside | fresh ^ 1 << number)
            self.lying[place] |= 1 << number
        for number in numbers_in(beside):
            self.together[number] |= fresh
        return numbers

    def put_event(self, firing, takes, is_cut):
        """Puts a new event, which takes what stands together; tells the numbers of what it gives."""
        number = len(self.firings)
        past = self.past_of(takes) | 1 << number
        depth = self.depth_of(takes)
        beside = self.together[takes[0]]
        for condition in takes:
            beside &= self.together[condition]
        self.firings.append(firing)
        self.pasts.append(past)
        self.depths.append(depth)
        self.numbers[(firing, takes)] = number
        return self.put_conditions(self.sides[firing][1], number, beside, is_cut)

    def makers_of(self, takes):
        """The events that give one of these conditions."""
        return [self.makers[condition] for condition in takes if self.makers[condition] is not None]

    def past_of(self, takes):
        """All events ahead of one that takes these."""
        past = 0
        for maker in self.makers_of(takes):
            past |= self.pasts[maker]
        return past

    def depth_of(self, takes):
        """The number of the layer of an event that takes these."""
        return max([self.depths[maker] + 1 for maker in self.makers_of(takes)], default=0)

    def rank_of(self, firing, takes):
        """By what the past, with it, of an event of that firing that takes these is in the order."""
        layers = [[] for _ in range(self.depth_of(takes) + 1)]
        layers[-1].append(firing)
        for event in numbers_in(self.past_of(takes)):
            layers[self.depths[event]].append(self.firings[event])
        told = [sorted(layer) for layer in layers]
        names = [number for layer in told for number in layer]
        return (len(names), sorted(names), [(len(layer), layer) for layer in told])

    def heap_behind(self, firing, takes):
        """The places of the heap of that past, which has one token in each."""
        heap = self.begin
        for number in [*[self.firings[event] for event in numbers_in(self.past_of(takes))], firing]:
            taken, given = self.sides[number]
            heap = heap & ~bits_of(taken) | bits_of(given)
        return heap

    def lots_of(self, places, allowed):
        """All tuples of conditions of these places, one of each, that stand together and are allowed; in order."""
        lots = [((), allowed)]
        for place in places:
            longer = []
            for lot, beside in lots:
                for condition in numbers_in(beside & self.lying[place]):
                    longer.append(((*lot, condition), beside & self.together[condition]))
            lots = longer
        return [lot for lot, _ in lots]
