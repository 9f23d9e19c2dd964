"""Siphons and traps: sets of places, each with a bit for its number."""

from tokenfold.errors import TooGreat
from tokenfold.firing import start_heap, wires_of
from tokenfold.lattices import size_of
from tokenfold.nets import check_net, check_places, numbers_of
from tokenfold.papers import is_names, is_pairs, is_paper

MOST_PLACES_TRIED = 12


def bits_of(numbers):
    """The set of these numbers, each of which may stand there more than once."""
    bits = 0
    for number in numbers:
        bits |= 1 << number
    return bits


def numbers_in(bits):
    """The numbers of a set, rising."""
    return [number for number in range(bits.bit_length()) if bits >> number & 1 == 1]


def names_in(net, bits):
    """The names of a set of places, in order."""
    return [net[0][number][0] for number in numbers_in(bits)]


def set_of(net, names):
    """The set of the places of these names; refuses what is no net, then the first name that is none."""
    check_net(net)
    check_places(net, names)
    numbers = numbers_of(net[0])
    return bits_of([numbers[name] for name in names])


def siphon_flows(net):
    """Of each firing two sets: where it gives to one of the second, it must take of one of the first."""
    flows = []
    for taken, given in wires_of(net).values():
        flows.append((bits_of([at for at, _ in taken]), bits_of([at for at, _ in given])))
    return flows


def trap_flows(net):
    """Of each firing two sets: where it takes of one of the second, it must give to one of the first."""
    return [(given, taken) for taken, given in siphon_flows(net)]


def is_kept(flows, bits):
    """Whether each flow that has one of the set as its second has one of it as its first, too."""
    return all([second & bits == 0 or first & bits != 0 for first, second in flows])


def greatest_in(flows, bits):
    """The greatest set within that one that is kept by the flows."""
    while not is_kept(flows, bits):
        for first, second in flows:
            if first & bits == 0:
                bits -= bits & second
    return bits


def is_siphon(net, places):
    """Whether each firing that gives to one of the places takes of one of them."""
    bits = set_of(net, places)
    return is_kept(siphon_flows(net), bits)


def is_trap(net, places):
    """Whether each firing that takes of one of the places gives to one of them."""
    bits = set_of(net, places)
    return is_kept(trap_flows(net), bits)


def siphon_in(net, places):
    """The greatest siphon within the places, in order."""
    bits = set_of(net, places)
    return names_in(net, greatest_in(siphon_flows(net), bits))


def trap_in(net, places):
    """The greatest trap within the places, in order."""
    bits = set_of(net, places)
    return names_in(net, greatest_in(trap_flows(net), bits))


def least_siphons(net):
    """The sets that are siphons, not empty, and have no other such one in them, by their places' numbers."""
    check_net(net)
    many = len(net[0])
    if many > MOST_PLACES_TRIED:
        raise TooGreat(MOST_PLACES_TRIED)
    flows = siphon_flows(net)
    found = []
    for bits in sorted(range(1, 1 << many), key=size_of):
        if is_kept(flows, bits) and all([bits & other != other for other in found]):
            found.append(bits)
    return sorted(found, key=numbers_in)


def siphons(net):
    """All siphons that aren't empty and have no other one that isn't in them, each a list of names in order."""
    return [names_in(net, bits) for bits in least_siphons(net)]


def marked_of(net):
    """The set of the places that have a token at the start."""
    return bits_of([at for at, count in enumerate(start_heap(net)) if count > 0])


def trapped(net):
    """Each siphon with its greatest trap, which has a token at the start; or the first whose trap has none."""
    found = least_siphons(net)
    flows = trap_flows(net)
    marked = marked_of(net)
    rows = []
    for bits in found:
        trap = greatest_in(flows, bits)
        if trap & marked == 0:
            return ("lacks", names_in(net, bits))
        rows.append((names_in(net, bits), names_in(net, trap)))
    return ("holds", rows)


def trapped_wrong(net, thing):
    """None where it shows that each siphon has a trap with a token at the start, or one has none."""
    told = siphons(net)
    if is_paper(thing, "holds", 2) and is_pairs(thing[1], net[0]):
        return holds_wrong(net, told, thing[1])
    if is_paper(thing, "lacks", 2) and is_names(thing[1], net[0]):
        return None if thing[1] in told and not is_trapped(net, thing[1], trap_in(net, thing[1])) else ("lacks",)
    return ("paper",)


def holds_wrong(net, told, rows):
    """None where these are just the siphons, each with a trap."""
    for k in range(max(len(told), len(rows))):
        if k >= len(told) or k >= len(rows) or rows[k][0] != told[k]:
            return ("siphon", k)
    for k, (siphon, trap) in enumerate(rows):
        if not is_trapped(net, siphon, trap):
            return ("trap", k)
    return None


def is_trapped(net, siphon, trap):
    """Whether the second one is a trap within the siphon, and has a token at the start."""
    bits = set_of(net, trap)
    within = bits & set_of(net, siphon) == bits
    return within and is_kept(trap_flows(net), bits) and bits & marked_of(net) != 0
