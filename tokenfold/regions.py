"""Regions of tables, and the nets that are made of them."""

from tokenfold.lattices import basis_of, mixed, weighed
from tokenfold.nets import LETTERS, is_tuple_of, is_whole, net_wrong
from tokenfold.papers import is_paper
from tokenfold.spans import Span, parted, shortened
from tokenfold.tables import check_table, counts_of, is_stand, leads_of, rings_of


def region_wrong(table, region):
    """None where it is a region of the table, else the first of what isn't so."""
    check_table(table)
    return region_flaw(table, region)


def region_flaw(table, region):
    """What region_wrong tells, of what is known to be a table."""
    names, many, arcs = table
    if not is_tuple_of(region, 2) or not are_counts(region[0], many) or not is_tuple_of(region[1], len(names)):
        return ("form",)
    if not all([are_counts(move, 2) for move in region[1]]):
        return ("form",)
    worths, moves = region
    told = {name: move for name, move in zip(names, moves)}
    for k, (stand, name, behind) in enumerate(arcs):
        taken, given = told[name]
        if worths[stand] < taken or worths[behind] != worths[stand] - taken + given:
            return ("arc", k)
    return None


def are_counts(thing, many):
    """Whether it is a tuple of so many whole numbers from 0 on."""
    return are_whole(thing, many) and all([number >= 0 for number in thing])


def are_whole(thing, many):
    """Whether it is a tuple of so many whole numbers."""
    return is_tuple_of(thing, many) and all([is_whole(number) for number in thing])


class Making:
    """A table's stands as points, such that each change of all worths is their weighing by factors.

    What is to be told apart are two stands, or a stand and those from which a name leads. Each of these has a bit.
    """

    def __init__(self, table):
        self.names, self.many, self.arcs = table
        self.leads = leads_of(table)
        self.counts = counts_of(table)
        self.rings = rings_of(table)
        # Of each name the stands from which it leads, and what it adds to a road: without such it needs nothing.
        self.leading = {name: [] for name in self.names}
        for stand, name, _ in self.arcs:
            self.leading[name].append(stand)
        unlike = list({ring: True for ring in self.rings if any(ring)})
        self.basis = [row for row in basis_of(unlike, len(self.names)) if self.is_used(row)]
        self.points = [[weighed(row, count) for row in self.basis] for count in self.counts]
        self.pairs = [(one, other) for one in range(self.many) for other in range(one + 1, self.many)]
        self.lacking = []
        for stand in range(self.many):
            for name in self.names:
                if len(self.leading[name]) > 0 and name not in self.leads.get(stand, {}):
                    self.lacking.append((stand, name))
        self.every = (1 << len(self.pairs) + len(self.lacking)) - 1

    def is_used(self, row):
        """Whether it changes what a name does that some arc has."""
        return any([number != 0 and len(self.leading[name]) > 0 for name, number in zip(self.names, row)])

    def alike(self):
        """The first two stands that no region tells apart; None where there are none."""
        for one, other in self.pairs:
            if self.points[one] == self.points[other]:
                return (one, other)
        return None

    def worths_by(self, factors):
        """The stands' worths by these factors of their points, the least of them 0."""
        worths = [weighed(factors, point) for point in self.points]
        least = min(worths)
        return [worth - least for worth in worths]

    def told_apart(self, factors):
        """What is told apart by the region of these factors, as bits."""
        worths = self.worths_by(factors)
        least = {name: min([worths[stand] for stand in stands], default=0) for name, stands in self.leading.items()}
        told = [worths[one] != worths[other] for one, other in self.pairs]
        told.extend([worths[stand] < least[name] for stand, name in self.lacking])
        return sum([1 << k for k, is_told in enumerate(told) if is_told])

    def towards(self, stand, name):
        """How the stands from which the name leads lie, seen from that stand."""
        own = self.points[stand]
        return [[number - less for number, less in zip(self.points[other], own)] for other in self.leading[name]]

    def region_of(self, factors):
        """The region of these factors, that takes as much as may be."""
        worths = self.worths_by(factors)
        moves = []
        for k, name in enumerate(self.names):
            taken, change = max(worths) + 1, -max(worths) - 1
            if len(self.leading[name]) > 0:
                taken = min([worths[stand] for stand in self.leading[name]])
                change = weighed(factors, [row[k] for row in self.basis])
            moves.append((taken, taken + change))
        return (tuple(worths), tuple(moves))


def made_net(table):
    """A net whose table it is, with its regions; or the first of what bars that, with what shows it."""
    check_table(table)
    making = Making(table)
    alike = making.alike()
    if alike is not None:
        return alike_paper(making, alike[0], alike[1])
    chosen = likely_regions(making)
    told = 0
    for _, bits in chosen:
        told |= bits
    for k, (stand, name) in enumerate(making.lacking):
        if told >> len(making.pairs) + k & 1 == 1:
            continue
        shares, factors = parted(making.towards(stand, name))
        if factors is None:
            return barred_paper(making, stand, name, shares)
        chosen.append((factors, making.told_apart(factors)))
        told |= chosen[-1][1]
    regions = [making.region_of(factors) for factors, _ in needed(chosen, making.every)]
    return ("net", net_of(table, regions), regions)


def units(many):
    """The factors 1 and -1 of one of so many numbers."""
    return [[sign * int(at == k) for at in range(many)] for k in range(many) for sign in (1, -1)]


def likely_regions(making):
    """Of the simplest regions those that tell most apart, with what they do: all stands that any can, at least."""
    pool = [(factors, making.told_apart(factors)) for factors in units(len(making.basis))]
    chosen = []
    left = making.every
    best = best_of(pool, left)
    while best is not None:
        chosen.append(best)
        left &= ~best[1]
        best = best_of(pool, left)
    return chosen


def best_of(pool, left):
    """The first of the pool that tells most of what is left apart; None where none does."""
    best = None
    most = 0
    for factors, bits in pool:
        many = f"{bits & left:b}".count("1")
        if many > most:
            best, most = (factors, bits), many
    return best


def needed(chosen, every):
    """Those without which something wouldn't be told apart; one at least."""
    kept = list(chosen)
    for one in chosen[::-1]:
        others = 0
        for factors, bits in kept:
            if factors != one[0]:
                others |= bits
        if others == every and len(kept) > 1:
            kept = [other for other in kept if other[0] != one[0]]
    return kept if len(kept) > 0 else [([], 0)]


def alike_paper(making, one, other):
    """What shows that each region has one worth at both stands."""
    apart = [number - less for number, less in zip(making.counts[one], making.counts[other])]
    times, _, weights = Span(making.rings).parted_off(apart)
    both = shortened([times, *weights])
    return ("stands", one, other, both[0], tuple(both[1:]))


def barred_paper(making, stand, name, shares):
    """What shows that no region that lets the name fire where it leads bars it at that stand."""
    times, _, weights = Span(making.rings).parted_off(apart_by(making.counts, making.leading[name], stand, shares))
    both = shortened([times * share for share in shares] + weights)
    return ("arc", stand, name, tuple(both[:len(shares)]), tuple(both[len(shares):]))


def apart_by(counts, stands, stand, shares):
    """The sum of the stands' counts less that stand's, each weighed by its share."""
    told = [counts[other] for other in stands]
    return [weighed(shares, column) - sum(shares) * less for column, less in zip(list(zip(*told)), counts[stand])]


def place_name(number):
    """The name of a made net's place: a, b, .., z, aa, .."""
    signs = ""
    number += 1
    while number > 0:
        number, rest = divmod(number - 1, len(LETTERS))
        signs = LETTERS[rest] + signs
    return signs


def net_of(table, regions):
    """The net with a place for each of the regions, and a firing for each of the table's names."""
    places = [place_name(k) for k in range(len(regions))]
    firings = []
    for k, name in enumerate(table[0]):
        sides = []
        for side in range(2):
            counts = [moves[k][side] for _, moves in regions]
            sides.append(tuple([(place, count) for place, count in zip(places, counts) if count > 0]))
        firings.append((name, name, sides[0], sides[1]))
    return (tuple([(place, worths[0]) for place, (worths, _) in zip(places, regions)]), tuple(firings))


def made_net_wrong(table, thing):
    """None where it is what made_net may tell of the table, or another bar, else the first of what isn't so."""
    check_table(table)
    if is_paper(thing, "net", 3) and net_wrong(thing[1]) is None and isinstance(thing[2], list) and len(thing[2]) > 0:
        return net_paper_wrong(table, thing[1], thing[2])
    if is_stands_paper(table, thing):
        _, one, other, times, weights = thing
        counts = counts_of(table)
        told = [times * (number - less) for number, less in zip(counts[one], counts[other])]
        return sum_wrong_of(table, told, weights)
    if is_arc_paper(table, thing):
        _, stand, name, shares, weights = thing
        return sum_wrong_of(table, apart_by(counts_of(table), stands_with(table, name), stand, shares), weights)
    return ("form",)


def net_paper_wrong(table, net, regions):
    """None where these are regions, unlike, the net is theirs, and its table is the table."""
    for k, region in enumerate(regions):
        if region_flaw(table, region) is not None or region in regions[:k]:
            return ("region", k)
    if net != net_of(table, regions):
        return ("net",)
    leads = leads_of(table)
    heaps = [tuple([worths[stand] for worths, _ in regions]) for stand in range(table[1])]
    for stand, heap in enumerate(heaps):
        for k, name in enumerate(table[0]):
            is_free = all([count >= moves[k][0] for count, (_, moves) in zip(heap, regions)])
            if is_free != (name in leads.get(stand, {})):
                return ("same", stand)
        if heap in heaps[stand + 1:]:
            return ("same", stand, heaps.index(heap, stand + 1))
    return None


def stands_with(table, name):
    """The stands from which the name leads, rising."""
    return [stand for stand, own, _ in table[2] if own == name]


def is_stands_paper(table, thing):
    """Whether it is by form what shows that no region tells two stands apart."""
    if not is_paper(thing, "stands", 5):
        return False
    _, one, other, times, weights = thing
    if not is_stand(one, table[1]) or not is_stand(other, table[1]) or one >= other:
        return False
    return is_whole(times) and times >= 1 and are_whole(weights, len(table[2]))


def is_arc_paper(table, thing):
    """Whether it is by form what shows that no region bars a name at a stand."""
    if not is_paper(thing, "arc", 5):
        return False
    _, stand, name, shares, weights = thing
    if not is_stand(stand, table[1]) or name not in table[0]:
        return False
    stands = stands_with(table, name)
    if stand in stands or not are_counts(shares, len(stands)) or not any(shares):
        return False
    return are_whole(weights, len(table[2]))


def sum_wrong_of(table, told, weights):
    """None where the rings, each weighed, make what is told."""
    made = [0] * len(table[0])
    for weight, ring in zip(weights, rings_of(table)):
        made = mixed(1, made, -weight, ring)
    return None if made == told else ("sum",)
