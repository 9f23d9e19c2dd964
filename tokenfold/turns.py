"""Turns of a net, that make it smaller: what is one by form, what its rule asks, and the net behind it."""

from tokenfold.cover import covered_wrong
from tokenfold.nets import is_tuple_of, is_whole, net_wrong, numbers_of


def turn_flaw(net, turn):
    """What turn_wrong tells, of what is known to be a net."""
    if not is_turn(turn):
        return ("turn",)
    if not is_named(net, turn):
        return ("names",)
    if not is_right(net, turn):
        return ("why",)
    if net_wrong(net_behind(net, turn)) is not None:
        return ("great",)
    return None


def is_turn(thing):
    """Whether it is a turn by form."""
    if not isinstance(thing, tuple) or len(thing) < 2 or not isinstance(thing[1], str):
        return False
    word = thing[0]
    if word == "still" or word == "through":
        return len(thing) == 2
    if word == "twin":
        return len(thing) == 3 and isinstance(thing[2], str)
    if word == "never":
        return len(thing) == 3 and isinstance(thing[2], list)
    return word == "implied" and len(thing) == 4 and are_weights(thing[2]) and is_whole(thing[3])


def are_weights(thing):
    """Whether it is a tuple of texts, each with a whole number from 1 on."""
    if not isinstance(thing, tuple) or not all([is_tuple_of(part, 2) for part in thing]):
        return False
    return all([isinstance(name, str) and is_whole(weight) and weight >= 1 for name, weight in thing])


def is_named(net, turn):
    """Whether the turn's names are the net's, and stand as they must."""
    if turn[0] == "implied":
        return are_places(net, turn[1], [name for name, _ in turn[2]])
    firings = numbers_of(net[1])
    if turn[1] not in firings:
        return False
    return turn[0] != "twin" or firings[turn[1]] < firings.get(turn[2], -1)


def are_places(net, place, others):
    """Whether it is a place, and the others are places, unlike, in order, that one not among them."""
    places = numbers_of(net[0])
    if place not in places or place in others or not all([name in places for name in others]):
        return False
    numbers = [places[name] for name in others]
    return all([one < other for one, other in zip(numbers, numbers[1:])])


def is_right(net, turn):
    """Whether what the turn's rule asks is so."""
    if turn[0] == "implied":
        return is_implied(net, turn[1], turn[2], turn[3])
    firing = firing_of(net, turn[1])
    if turn[0] == "twin":
        return firing[1:] == firing_of(net, turn[2])[1:]
    if turn[0] == "still":
        return firing[1] == "" and firing[2] == firing[3]
    if turn[0] == "never":
        return covered_wrong(net, heap_taken(net, firing), ("never", turn[2])) is None
    return is_passing(net, firing)


def firing_of(net, name):
    """The firing of that name."""
    return net[1][numbers_of(net[1])[name]]


def heap_taken(net, firing):
    """The heap of what the firing takes."""
    takes = {place: count for place, count in firing[2]}
    return tuple([takes.get(name, 0) for name, _ in net[0]])


def is_implied(net, place, weights, more):
    """Whether the place has always so many more than the others, each by its weight, and never bars a firing."""
    starts = {name: start for name, start in net[0]}
    if starts[place] != more + weighed(starts, weights):
        return False
    for _, _, takes, gives in net[1]:
        taken = {name: count for name, count in takes}
        given = {name: count for name, count in gives}
        change = weighed(given, weights) - weighed(taken, weights)
        if given.get(place, 0) - taken.get(place, 0) != change:
            return False
        if place in taken and taken[place] > more + weighed(taken, weights):
            return False
    return True


def weighed(counts, weights):
    """The sum of the counts of these places, each by its weight."""
    return sum([weight * counts.get(name, 0) for name, weight in weights])


def is_passing(net, firing):
    """Whether the silent firing only passes on what comes to a place, of which no other one takes."""
    name, label, takes, gives = firing
    if label != "" or len(takes) != 1 or takes[0][1] != 1 or len(gives) == 0:
        return False
    place = takes[0][0]
    if place in [given for given, _ in gives]:
        return False
    return not any([other[0] != name and place in [taken for taken, _ in other[2]] for other in net[1]])


def net_behind(net, turn):
    """The net behind a turn whose rule is so; where that would be too great, or have no place, it is no net."""
    if turn[0] == "implied":
        return (without(net[0], turn[1]), tuple([firing_without(firing, turn[1]) for firing in net[1]]))
    if turn[0] == "through":
        return net_through(net, turn[1])
    return (net[0], without(net[1], turn[2] if turn[0] == "twin" else turn[1]))


def without(named, name):
    """All that are named but the one of that name, in their order."""
    return tuple([thing for thing in named if thing[0] != name])


def firing_without(firing, place):
    """The firing, which neither takes of that place nor gives to it any more."""
    name, label, takes, gives = firing
    return (name, label, without(takes, place), without(gives, place))


def net_through(net, name):
    """The net without that firing and the place of which it takes: what came there goes on at once."""
    _, _, takes, gives = firing_of(net, name)
    place = takes[0][0]
    starts = put_through(net[0], place, gives)
    firings = []
    for other, label, taken, given in without(net[1], name):
        counts = put_through([(one, 0) for one, _ in net[0]], place, gives, given)
        firings.append((other, label, taken, tuple([part for part in counts if part[1] > 0])))
    return (tuple(starts), tuple(firings))


def put_through(named, place, gives, more=()):
    """These counts of all places, and more, with so many times what is given in the stead of the place's own."""
    counts = {name: count for name, count in named}
    for name, count in more:
        counts[name] += count
    many = counts[place]
    for name, count in gives:
        counts[name] += many * count
    return [(name, counts[name]) for name, _ in named if name != place]
