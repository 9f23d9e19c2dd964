"""Reductions: turns that make a net smaller, and how heaps and rows are led to what stays, and back."""

from tokenfold.errors import NoHeap, NoTurn
from tokenfold.firing import check_heap, check_row
from tokenfold.nets import check_net, numbers_of
from tokenfold.turns import firing_of, net_behind, put_through, turn_flaw, weighed, without

MOST_WEIGHT = 3


def turn_wrong(net, turn):
    """None where it is a turn of the net that may be done, else the first of what isn't so."""
    check_net(net)
    return turn_flaw(net, turn)


def turned(net, turn):
    """The net behind the turn."""
    wrong = turn_wrong(net, turn)
    if wrong is not None:
        raise NoTurn(wrong)
    return net_behind(net, turn)


def heap_led(net, turn, heap):
    """The heap of the turned net to which the net's heap is led."""
    turned(net, turn)
    check_heap(net, heap)
    return heap_on(net, turn, heap)


def heap_on(net, turn, heap):
    """What heap_led tells, of what is known to be right."""
    if turn[0] != "implied" and turn[0] != "through":
        return heap
    named = [(name, count) for (name, _), count in zip(net[0], heap)]
    if turn[0] == "implied":
        return tuple([count for name, count in named if name != turn[1]])
    _, _, takes, gives = firing_of(net, turn[1])
    return tuple([count for _, count in put_through(named, takes[0][0], gives)])


def heap_back(net, turn, heap):
    """The heap of the net to which the turned net's heap is led back."""
    check_heap(turned(net, turn), heap)
    return heap_ahead(net, turn, heap)


def heap_ahead(net, turn, heap):
    """What heap_back tells, of what is known to be right, but for too little at an implied place."""
    if turn[0] != "implied" and turn[0] != "through":
        return heap
    place = turn[1] if turn[0] == "implied" else firing_of(net, turn[1])[2][0][0]
    at = numbers_of(net[0])[place]
    count = 0
    if turn[0] == "implied":
        counts = {name: many for (name, _), many in zip(without(net[0], place), heap)}
        count = turn[3] + weighed(counts, turn[2])
        if count < 0:
            raise NoHeap(("place", at))
    return (*heap[:at], count, *heap[at:])


def row_led(net, turn, row):
    """The row of the turned net's firings to which a row of the net's is led."""
    turned(net, turn)
    check_row(net, row)
    return row_on(turn, row)


def row_on(turn, row):
    """What row_led tells, of what is known to be right."""
    if turn[0] == "implied":
        return list(row)
    if turn[0] == "twin":
        return [turn[1] if name == turn[2] else name for name in row]
    return [name for name in row if name != turn[1]]


def row_back(net, turn, row):
    """The row of the net's firings to which a row of the turned net's is led back."""
    check_row(turned(net, turn), row)
    return row_ahead(net, turn, row)


def row_ahead(net, turn, row):
    """What row_back tells, of what is known to be right."""
    if turn[0] != "through":
        return list(row)
    place = firing_of(net, turn[1])[2][0][0]
    names = [turn[1]] * net[0][numbers_of(net[0])[place]][1]
    passed = {firing[0]: sum([count for name, count in firing[3] if name == place]) for firing in net[1]}
    for name in row:
        names.append(name)
        names.extend([turn[1]] * passed[name])
    return names


def reduced(net):
    """The net behind all turns that may be done, of each net the first one, and these turns."""
    check_net(net)
    turns = []
    turn = first_turn(net)
    while turn is not None:
        turns.append(turn)
        net = net_behind(net, turn)
        turn = first_turn(net)
    return (net, turns)


def first_turn(net):
    """The first turn that may be done, of those that reduced looks for; None where there is none."""
    turn = implied_turn(net)
    if turn is None:
        turn = twin_turn(net)
    if turn is None:
        turn = first_right(net, [("through", firing[0]) for firing in net[1]])
    return turn


def first_right(net, turns):
    """The first of the turns that may be done; None where there is none."""
    for turn in turns:
        if turn_flaw(net, turn) is None:
            return turn
    return None


def twin_turn(net):
    """The first firing that has a twin, with the first one it has; None where none has."""
    names = {}
    for name, label, takes, gives in net[1]:
        names.setdefault((label, takes, gives), []).append(name)
    for alike in names.values():
        if len(alike) > 1:
            return ("twin", alike[0], alike[1])
    return None


def implied_turn(net):
    """The first place that is implied by no, by one, by two others, with the first of their weights."""
    changes = changes_of(net)
    starts = {name: start for name, start in net[0]}
    for place, _ in net[0]:
        others = {name: multiples(changes[name]) for name, _ in net[0] if name != place}
        for many in range(3):
            found = weights_of(changes[place], others, many)
            turns = [("implied", place, weights, starts[place] - weighed(starts, weights)) for weights in found]
            turn = first_right(net, turns)
            if turn is not None:
                return turn
    return None


def changes_of(net):
    """Of each place what the firings give to it less what they take of it."""
    changes = {name: [0] * len(net[1]) for name, _ in net[0]}
    for k, (_, _, takes, gives) in enumerate(net[1]):
        for name, count in takes:
            changes[name][k] -= count
        for name, count in gives:
            changes[name][k] += count
    return changes


def multiples(change):
    """The change, weighed by each weight, with it."""
    return [(weight, [weight * count for count in change]) for weight in range(1, MOST_WEIGHT + 1)]


def weights_of(change, others, many):
    """The weights of so many of the other places, none, one or two, by which these change so; in order."""
    if many == 0:
        return [()] if not any(change) else []
    if many == 1:
        return [((name, weight),) for name, weighted in others.items() for weight, own in weighted if own == change]
    found = []
    names = list(others)
    for k, name in enumerate(names):
        rests = [(weight, [count - less for count, less in zip(change, own)]) for weight, own in others[name]]
        for other in names[k + 1:]:
            for one, rest in rests:
                found.extend([((name, one), (other, two)) for two, own in others[other] if own == rest])
    return found


def nets_along(net, turns):
    """The nets ahead of each of the turns, and the one behind all of them."""
    check_net(net)
    nets = [net]
    for k, turn in enumerate(turns):
        wrong = turn_flaw(nets[-1], turn)
        if wrong is not None:
            raise NoTurn((k, wrong))
        nets.append(net_behind(nets[-1], turn))
    return nets


def heap_led_by(net, turns, heap):
    """The heap to which the net's heap is led by all of the turns."""
    nets = nets_along(net, turns)
    check_heap(net, heap)
    for ahead, turn in zip(nets, turns):
        heap = heap_on(ahead, turn, heap)
    return heap


def heap_back_by(net, turns, heap):
    """The heap of the net to which a heap of the net behind all of the turns is led back."""
    nets = nets_along(net, turns)
    check_heap(nets[-1], heap)
    for ahead, turn in reversed(list(zip(nets, turns))):
        heap = heap_ahead(ahead, turn, heap)
    return heap


def row_led_by(net, turns, row):
    """The row to which a row of the net's firings is led by all of the turns."""
    nets_along(net, turns)
    check_row(net, row)
    for turn in turns:
        row = row_on(turn, row)
    return list(row)


def row_back_by(net, turns, row):
    """The row of the net's firings to which one of the net behind all of the turns is led back."""
    nets = nets_along(net, turns)
    check_row(nets[-1], row)
    for ahead, turn in reversed(list(zip(nets, turns))):
        row = row_ahead(ahead, turn, row)
    return list(row)
