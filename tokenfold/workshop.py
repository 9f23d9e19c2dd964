"""A workshop: a net that is changed while runs stand in it."""

from tokenfold.errors import Gone, NoBack, NoLead, NoRun, NoTitle, Taken
from tokenfold.firing import check_row, start_heap, step, wires_of
from tokenfold.leads import led
from tokenfold.nets import LETTERS, check_net
from tokenfold.texts import read_net

LONGEST_TITLE = 8


def read_whole(text):
    """The net of a text; refuses what is no text, then what is no net."""
    net = read_net(text)
    check_net(net)
    return net


def is_title(thing):
    """Whether it is a title."""
    if not isinstance(thing, str) or not 1 <= len(thing) <= LONGEST_TITLE:
        return False
    return all([sign in LETTERS for sign in thing])


class Workshop:
    """A net of a text, and runs in it, each by its title a tuple of its heap and of the names that it fired.

    What a deed changes is put anew, never changed itself: so what was ahead of it is kept, and can be taken back.
    """

    def __init__(self, text):
        self._net = read_whole(text)
        self._rows = list(text)
        self._runs = {}
        # Of each deed the deed, and the net, the rows and the runs ahead of it.
        self._deeds = []

    def _note(self, deed):
        """Puts the deed to the others, ahead of what it changes."""
        self._deeds.append((deed, self._net, self._rows, self._runs))

    def _run(self, title):
        """The run of that title that isn't ended."""
        if not isinstance(title, str) or title not in self._runs:
            raise NoRun(title)
        return self._runs[title]

    def _put(self, title, heap, names):
        """Lets the run stand so."""
        runs = {other: self._runs[other] for other in self._runs}
        runs[title] = (heap, names)
        self._runs = runs

    def start(self, title):
        """Begins a run at the net's start."""
        if not is_title(title):
            raise NoTitle(title)
        if title in self._runs:
            raise Taken(title)
        self._note(("start", title))
        self._put(title, start_heap(self._net), ())

    def fire(self, title, firing):
        """Fires it in that run."""
        heap, names = self._run(title)
        check_row(self._net, [firing])
        behind = step(self._net, heap, wires_of(self._net)[firing], 0)
        self._note(("fire", title, firing))
        self._put(title, behind, (*names, firing))

    def heap(self, title):
        """Where the run stands."""
        return self._run(title)[0]

    def trail(self, title):
        """The names, as they were then, of all that the run has fired since it began."""
        return list(self._run(title)[1])

    def edit(self, text, *, names=None):
        """Puts another text in the stead of the old one, and leads all runs over."""
        net = read_whole(text)
        runs = {}
        for title in sorted(self._runs):
            heap, row = self._runs[title]
            try:
                runs[title] = (led(self._net, net, heap, {} if names is None else names), row)
            except Gone as gone:
                raise NoLead(title, gone.place)
        self._note(("edit", len(text)))
        self._net = net
        self._rows = list(text)
        self._runs = runs

    def stop(self, title):
        """Ends a run."""
        self._run(title)
        self._note(("stop", title))
        self._runs = {other: self._runs[other] for other in self._runs if other != title}

    def back(self):
        """Takes the last deed back."""
        if len(self._deeds) == 0:
            raise NoBack()
        _, self._net, self._rows, self._runs = self._deeds.pop()

    def text(self):
        """The text, as it is now."""
        return list(self._rows)

    def net(self):
        """The net, as it is now."""
        return self._net

    def titles(self):
        """The titles of the runs that aren't ended, sorted."""
        return sorted(self._runs)

    def log(self):
        """All deeds that were let in and not taken back."""
        return [deed for deed, _, _, _ in self._deeds]
