"""Tables: stands, numbered from 0 on, and the arcs of names that lead from one to another."""

from tokenfold.errors import NoTable
from tokenfold.nets import check_net, is_name, is_tuple_of, is_whole
from tokenfold.reach import MOST_HEAPS, reach


def table_wrong(thing):
    """None where it is a table, else the first of what isn't so."""
    if not is_tuple_of(thing, 3):
        return ("form",)
    names, many, arcs = thing
    if not are_unlike_names(names) or not is_whole(many) or many < 1 or not isinstance(arcs, tuple):
        return ("form",)
    k = bad_arc(names, many, arcs)
    if k is not None:
        return ("arc", k)
    ways = ways_of(thing)
    for stand in range(many):
        if stand not in ways:
            return ("stand", stand)
    return None


def are_unlike_names(thing):
    """Whether it is a tuple of NAMES, no two alike."""
    return isinstance(thing, tuple) and all([is_name(name) for name in thing]) and len(set(thing)) == len(thing)


def bad_arc(names, many, arcs):
    """The number of the first arc that is none, or isn't behind the one ahead; None where there is none."""
    places = {name: place for place, name in enumerate(names)}
    last = (-1, -1)
    for k, arc in enumerate(arcs):
        if not is_tuple_of(arc, 3) or not isinstance(arc[1], str) or arc[1] not in places:
            return k
        if not is_stand(arc[0], many) or not is_stand(arc[2], many) or (arc[0], places[arc[1]]) <= last:
            return k
        last = (arc[0], places[arc[1]])
    return None


def is_stand(thing, many):
    """Whether it is one of so many stands."""
    return is_whole(thing) and 0 <= thing < many


def check_table(table):
    """Refuses what is no table."""
    wrong = table_wrong(table)
    if wrong is not None:
        raise NoTable(wrong)


def leads_of(table):
    """Of each stand from the names of the arcs that lead from it to the stands behind, in order."""
    leads = {}
    for stand, name, behind in table[2]:
        leads.setdefault(stand, {})[name] = behind
    return leads


def ways_of(table):
    """From the stands that are come to, as they are found, to their roads."""
    leads = leads_of(table)
    ways = {0: ()}
    queue = [0]
    at = 0
    while at < len(queue):
        stand = queue[at]
        for name, behind in leads.get(stand, {}).items():
            if behind not in ways:
                ways[behind] = (*ways[stand], name)
                queue.append(behind)
        at += 1
    return ways


def table_of(net, *, most=MOST_HEAPS):
    """The table of all heaps that are come to."""
    check_net(net)
    heaps, steps = reach(net, most=most)
    arcs = [(stand, name, behind) for stand, leads in enumerate(steps) for name, behind in leads]
    return (tuple([firing[0] for firing in net[1]]), len(heaps), tuple(arcs))


def roads(table):
    """Of each stand the shortest row of names to it, of as short ones the first."""
    check_table(table)
    ways = ways_of(table)
    return [ways[stand] for stand in range(table[1])]


def counts_of(table):
    """Of each stand how often each name stands in its road."""
    ways = ways_of(table)
    return [[ways[stand].count(name) for name in table[0]] for stand in range(table[1])]


def rings(table):
    """Of each arc the count of the stand that it leads from, with its name, less that of the one that it leads to."""
    check_table(table)
    return rings_of(table)


def rings_of(table):
    """What rings tells, of what is known to be a table."""
    counts = counts_of(table)
    told = []
    for stand, name, behind in table[2]:
        further = [many + int(own == name) for own, many in zip(table[0], counts[stand])]
        told.append(tuple([more - less for more, less in zip(further, counts[behind])]))
    return told


def same(one, other):
    """None where the tables are the same but for the stands' numbers, else the first row, or two, that parts them."""
    check_table(one)
    check_table(other)
    names = [*one[0], *[name for name in other[0] if name not in one[0]]]
    ones, others = leads_of(one), leads_of(other)
    pairs = [(0, 0, ())]
    # Of each stand of the one, of the other table the number of the first row, of those gone through, that leads to it.
    firsts, seconds = {0: 0}, {0: 0}
    at = 0
    while at < len(pairs):
        stand, partner, row = pairs[at]
        here, there = ones.get(stand, {}), others.get(partner, {})
        for name in names:
            if (name in here) != (name in there):
                return ((*row, name),)
            if name not in here:
                continue
            first, second = firsts.get(here[name]), seconds.get(there[name])
            if first != second:
                known = min([number for number in (first, second) if number is not None])
                return (pairs[known][2], (*row, name))
            if first is None:
                firsts[here[name]] = seconds[there[name]] = len(pairs)
                pairs.append((here[name], there[name], (*row, name)))
        at += 1
    return None
