"""Plays: objects that stand in a net, fire and take back."""

from tokenfold.errors import NoBack
from tokenfold.firing import check_row, labels_along, moved, start_heap, step, wires_of


class Play:
    """Stands at the net's start, and from there on where its firings lead."""

    def __init__(self, net):
        self._heap = start_heap(net)
        self._net = net
        self._wires = wires_of(net)
        self._row = []

    def __eq__(self, other):
        return isinstance(other, Play) and self._net == other._net and self._heap == other._heap

    def __len__(self):
        return len(self._row)

    def fire(self, name):
        """Fires that firing and tells the heap behind it."""
        check_row(self._net, [name])
        self._heap = step(self._net, self._heap, self._wires[name], 0)
        self._row.append(name)
        return self._heap

    def heap(self):
        """The heap at which it stands."""
        return self._heap

    def trail(self):
        """The row by which it stands there."""
        return list(self._row)

    def words(self):
        """The words of its row."""
        return labels_along(self._net, self._row)

    def back(self):
        """Takes the last firing back."""
        if len(self._row) == 0:
            raise NoBack()
        taken, given = self._wires[self._row.pop()]
        self._heap = moved(self._heap, given, taken)

    def copy(self):
        """Another one that stands as this one, with its row, and goes on by itself."""
        other = Play(self._net)
        other._heap = self._heap
        other._row = list(self._row)
        return other

    def net(self):
        """The net in which it stands."""
        return self._net
