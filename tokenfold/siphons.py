"""Siphons and traps: sets of places, each with a bit for its number."""

from tokenfold.bits import bits_of, numbers_in
from tokenfold.errors import TooGreat
from tokenfold.nets import check_net, check_places, numbers_of
from tokenfold.papers import is_names, is_pairs, is_paper

MOST_PLACES_TRIED = 12
# Of so many places all sets are looked at at once: one number has a bit for each, and of more it would get too long.
MOST_PLACES_AT_ONCE = 11


def names_in(net, bits):
    """The names of a set of places, in order."""
    return [net[0][number][0] for number in numbers_in(bits)]


def set_of(net, names):
    """The set of the places of these names; refuses what is no net, then the first name that is none."""
    check_net(net)
    check_places(net, names)
    numbers = numbers_of(net[0])
    return bits_of([numbers[name] for name in names])


def siphon_flows(net):
    """Of each firing two sets: where it gives to one of the second, it must take of one of the first."""
    bits = {name: 1 << number for number, (name, _) in enumerate(net[0])}
    flows = []
    for _, _, takes, gives in net[1]:
        flows.append((sum([bits[name] for name, _ in takes]), sum([bits[name] for name, _ in gives])))
    return flows


def turned_round(flows):
    """Of siphons' flows traps': where a firing takes of one of the second, it must give to one of the first."""
    return [(given, taken) for taken, given in flows]


def is_kept(flows, bits):
    """Whether each flow that has one of the set as its second has one of it as its first, too."""
    return all([second & bits == 0 or first & bits != 0 for first, second in flows])


def greatest_in(flows, bits):
    """The greatest set within that one that is kept by the flows."""
    while not is_kept(flows, bits):
        for first, second in flows:
            if first & bits == 0:
                bits -= bits & second
    return bits


def is_siphon(net, places):
    """Whether each firing that gives to one of the places takes of one of them."""
    bits = set_of(net, places)
    return is_kept(siphon_flows(net), bits)


def is_trap(net, places):
    """Whether each firing that takes of one of the places gives to one of them."""
    bits = set_of(net, places)
    return is_kept(turned_round(siphon_flows(net)), bits)


def siphon_in(net, places):
    """The greatest siphon within the places, in order."""
    bits = set_of(net, places)
    return names_in(net, greatest_in(siphon_flows(net), bits))


def trap_in(net, places):
    """The greatest trap within the places, in order."""
    bits = set_of(net, places)
    return names_in(net, greatest_in(turned_round(siphon_flows(net)), bits))


class Families:
    """Families of sets of the first so many places, each one number: its bit at a set's own number is 1 if it has it.

    So it is asked of all sets at once.
    """

    def __init__(self, many):
        self.every = 1
        # Of each place the family of the sets that have it.
        self.having = []
        for place in range(many):
            size = 1 << place
            self.having = [family | family << size for family in self.having]
            self.having.append(self.every << size)
            self.every |= self.every << size

    def meeting(self, bits, more):
        """The sets that have one of these places, when those of more are put to each."""
        if bits & more != 0:
            return self.every
        met = 0
        for place in numbers_in(bits & (1 << len(self.having)) - 1):
            met |= self.having[place]
        return met

    def kept(self, flows, more):
        """The sets that are kept by the flows, when those of more are put to each."""
        lost = 0
        for first, second in flows:
            lost |= self.meeting(second, more) & ~self.meeting(first, more)
        return self.every & ~lost

    def above(self, family):
        """The sets that have all of one of the family."""
        for place, has_it in enumerate(self.having):
            family |= (family & ~has_it) << (1 << place)
        return family

    def least(self, family):
        """Those of the family that have no other one of it in them."""
        above = self.above(family)
        more = 0
        for place, has_it in enumerate(self.having):
            more |= (above & ~has_it) << (1 << place)
        return family & ~more


def check_few_places(net):
    """Refuses what is no net, then one of more than twelve places."""
    check_net(net)
    if len(net[0]) > MOST_PLACES_TRIED:
        raise TooGreat(MOST_PLACES_TRIED)


def least_kept(flows, many):
    """The sets of so many places that are kept, not empty, and have no other such one in them, in order."""
    # Many firings may have one flow, and one that gives only where it takes bars no set.
    unlike = list({flow: True for flow in flows if flow[1] & ~flow[0] != 0})
    families = Families(min(many, MOST_PLACES_AT_ONCE))
    least = families.least(families.kept(unlike, 0) & ~1)
    found = numbers_in(least)
    if many > MOST_PLACES_AT_ONCE:
        last = 1 << MOST_PLACES_AT_ONCE
        fresh = families.kept(unlike, last) & ~families.above(least)
        found.extend([bits | last for bits in numbers_in(families.least(fresh))])
    return sorted(found, key=numbers_in)


def siphons(net):
    """All siphons that aren't empty and have no other one that isn't in them, each a list of names in order."""
    check_few_places(net)
    return [names_in(net, bits) for bits in least_kept(siphon_flows(net), len(net[0]))]


def marked_of(net):
    """The set of the places that have a token at the start."""
    return bits_of([at for at, (_, count) in enumerate(net[0]) if count > 0])


def trapped(net):
    """Each siphon with its greatest trap, which has a token at the start; or the first whose trap has none."""
    check_few_places(net)
    flows = siphon_flows(net)
    found = least_kept(flows, len(net[0]))
    flows = turned_round(flows)
    marked = marked_of(net)
    rows = []
    for bits in found:
        trap = greatest_in(flows, bits)
        if trap & marked == 0:
            return ("lacks", names_in(net, bits))
        rows.append((names_in(net, bits), names_in(net, trap)))
    return ("holds", rows)


def trapped_wrong(net, thing):
    """None where it shows that each siphon has a trap with a token at the start, or one has none."""
    check_few_places(net)
    flows = siphon_flows(net)
    if is_paper(thing, "holds", 2) and is_pairs(thing[1], net[0]):
        return holds_wrong(net, flows, thing[1])
    if is_paper(thing, "lacks", 2) and is_names(thing[1], net[0]):
        return lacks_wrong(net, flows, thing[1])
    return ("paper",)


def holds_wrong(net, flows, rows):
    """None where these are just the siphons, each with a trap."""
    found = least_kept(flows, len(net[0]))
    for k in range(max(len(found), len(rows))):
        if k >= len(found) or k >= len(rows) or rows[k][0] != names_in(net, found[k]):
            return ("siphon", k)
    flows = turned_round(flows)
    marked = marked_of(net)
    numbers = numbers_of(net[0])
    for k, (siphon, (_, names)) in enumerate(zip(found, rows)):
        trap = bits_of([numbers[name] for name in names])
        if trap & siphon != trap or not is_kept(flows, trap) or trap & marked == 0:
            return ("trap", k)
    return None


def lacks_wrong(net, flows, names):
    """None where these are one of the siphons, whose greatest trap has no token at the start."""
    numbers = numbers_of(net[0])
    siphon = bits_of([numbers[name] for name in names])
    if names_in(net, siphon) != names or siphon not in least_kept(flows, len(net[0])):
        return ("lacks",)
    return None if greatest_in(turned_round(flows), siphon) & marked_of(net) == 0 else ("lacks",)
