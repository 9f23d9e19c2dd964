"""How a heap of one net is led over to another net."""

from tokenfold.errors import Gone
from tokenfold.firing import check_heap
from tokenfold.nets import check_net, numbers_of


def led(net, other, heap, names):
    """The heap of the other net to which that one comes, the places being called there as names tells."""
    check_net(net)
    check_net(other)
    check_heap(net, heap)
    numbers = numbers_of(other[0])
    images = [names.get(place, place) for place, _ in net[0]]
    for (place, _), image, count in zip(net[0], images, heap):
        if count > 0 and image not in numbers:
            raise Gone(place)
    counts = {place: 0 if place in images else start for place, start in other[0]}
    for image, count in zip(images, heap):
        if image in counts:
            counts[image] += count
    return tuple(counts.values())
