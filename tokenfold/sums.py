"""Sums of places and loops of firings: what stays."""

from tokenfold.errors import NoSum
from tokenfold.firing import check_heap, wires_of
from tokenfold.lattices import basis_of, least_of, made_by, weighed
from tokenfold.nets import check_net, is_tuple_of, is_whole


def changes_of(net):
    """Of each firing, in order, how many more each place has behind it."""
    changes = []
    for taken, given in wires_of(net).values():
        change = [0] * len(net[0])
        for at, count in taken:
            change[at] -= count
        for at, count in given:
            change[at] += count
        changes.append(change)
    return changes


def turned_about(net):
    """Of each place, in order, how many more it has behind each firing."""
    changes = changes_of(net)
    return [[change[at] for change in changes] for at in range(len(net[0]))]


def is_whole_tuple(thing, many):
    """Whether it is a tuple of so many whole numbers."""
    return is_tuple_of(thing, many) and all([is_whole(number) for number in thing])


def first_unlike(named, equations, numbers):
    """The name of the first whose equation the numbers don't solve; None where they solve all."""
    for thing, equation in zip(named, equations):
        if weighed(equation, numbers) != 0:
            return thing[0]
    return None


def sum_wrong(net, thing):
    """None where it is a sum of the net, else the first of what isn't so."""
    check_net(net)
    if not is_whole_tuple(thing, len(net[0])):
        return ("sum",)
    name = first_unlike(net[1], changes_of(net), thing)
    return None if name is None else ("firing", name)


def loop_wrong(net, thing):
    """None where it is a loop of the net, else the first of what isn't so."""
    check_net(net)
    if not is_whole_tuple(thing, len(net[1])):
        return ("loop",)
    name = first_unlike(net[0], turned_about(net), thing)
    return None if name is None else ("place", name)


def check_sum(net, weights):
    """Refuses what is no net, then what is no sum of it."""
    wrong = sum_wrong(net, weights)
    if wrong is not None:
        raise NoSum(wrong)


def check_loop(net, times):
    """Refuses what is no net, then what is no loop of it."""
    wrong = loop_wrong(net, times)
    if wrong is not None:
        raise NoSum(wrong)


def worth(net, weights, heap):
    """The sum of the heap's counts, each weighed."""
    check_sum(net, weights)
    check_heap(net, heap)
    return weighed(weights, heap)


def sums(net):
    """The basis in steps of the net's sums."""
    check_net(net)
    return basis_of(changes_of(net), len(net[0]))


def loops(net):
    """The basis in steps of the net's loops."""
    check_net(net)
    return basis_of(turned_about(net), len(net[1]))


def made(net, weights):
    """How often each of the basis is in the sum."""
    check_sum(net, weights)
    return made_by(sums(net), weights)


def made_of_loops(net, times):
    """How often each of the basis is in the loop."""
    check_loop(net, times)
    return made_by(loops(net), times)


def least_sums(net, *, most=2000):
    """The sums without numbers below 0, or a common divisor, of whose places no other one has a part alone; sorted."""
    check_net(net)
    return least_of(changes_of(net), len(net[0]), most)


def least_loops(net, *, most=2000):
    """The loops without numbers below 0, or a common divisor, of whose firings no other has a part alone; sorted."""
    check_net(net)
    return least_of(turned_about(net), len(net[1]), most)
