"""Texts of nets: read, printed."""

from tokenfold.errors import NoText
from tokenfold.nets import FIGURES, KEPT_WORDS, LETTERS, LONGEST_NAME, WORD_SIGNS, check_net

MOST_FIGURES = 9


def is_passed_over(row):
    """Whether the row tells nothing."""
    told = row.strip(" ")
    return told == "" or told.startswith("--")


def word_at(row, at):
    """The word that begins there; where none does, the one sign that stands there."""
    if row[at:at + 2] == "->":
        return "->"
    end = at
    while end < len(row) and row[end] in WORD_SIGNS:
        end += 1
    return row[at:max(end, at + 1)]


def words_in(row):
    """The words of the row, each with its column; last "", which stands for the row's end.

    A sign that no word has stands here as a word: no text goes on with it, so it is refused where it stands.
    """
    found = []
    at = 0
    while at < len(row):
        word = word_at(row, at)
        if word != " ":
            found.append((word, at + 1))
        at += len(word)
    found.append(("", len(row.rstrip(" ")) + 1))
    return found


def begins_with(word, signs):
    """Whether the word's first sign is one of these; the row's end has none."""
    return word != "" and word[0] in signs


def bad_figure(word):
    """Where the first sign stands by which it is no number, from 0 on; None where there is none."""
    for at, sign in enumerate(word):
        if sign not in FIGURES or at == MOST_FIGURES or (at == 1 and word[0] == "0"):
            return at
    return None


class RowReader:
    """Goes through the words of one row, from the left, and refuses the first with which no text goes on."""

    def __init__(self, number, row):
        self.number = number
        self.found = words_in(row)
        self.passed = 0

    def word(self):
        """The word at hand, "" at the row's end."""
        return self.found[self.passed][0]

    def refuse(self, offset):
        """Refuses the word at hand, at that sign of it."""
        raise NoText(self.number, self.found[self.passed][1] + offset)

    def read_sign(self, sign):
        """Goes past just that word."""
        if self.word() != sign:
            self.refuse(0)
        self.passed += 1

    def read_name(self):
        """Goes past a NAME and tells it."""
        word = self.word()
        if not begins_with(word, LETTERS) or word in KEPT_WORDS:
            self.refuse(0)
        if len(word) > LONGEST_NAME:
            self.refuse(LONGEST_NAME)
        self.passed += 1
        return word

    def read_number(self, least):
        """Goes past a number from the least on and tells it."""
        word = self.word()
        if not begins_with(word, FIGURES):
            self.refuse(0)
        bad = bad_figure(word)
        if bad is not None:
            self.refuse(bad)
        if int(word) < least:
            self.refuse(0)
        self.passed += 1
        return int(word)

    def read_part(self):
        """Goes past a NAME, or a COUNT and a NAME, and tells the name and the count."""
        count = 1
        if begins_with(self.word(), FIGURES):
            count = self.read_number(2)
        return (self.read_name(), count)

    def read_parts(self):
        """Goes past PARTS and tells them."""
        if self.word() == "0":
            self.passed += 1
            return ()
        parts = [self.read_part()]
        while self.word() == "+":
            self.passed += 1
            parts.append(self.read_part())
        return tuple(parts)

    def read_place(self):
        """Goes past all of a place's row and tells the place."""
        self.read_sign("place")
        name = self.read_name()
        start = self.read_number(0)
        self.read_sign("")
        return (name, start)

    def read_firing(self):
        """Goes past all of a firing's row and tells the firing."""
        self.read_sign("fire")
        name = self.read_name()
        label = ""
        if self.word() == "as":
            self.passed += 1
            label = self.read_name()
        self.read_sign(":")
        takes = self.read_parts()
        self.read_sign("->")
        gives = self.read_parts()
        self.read_sign("")
        return (name, label, takes, gives)


def numbered_rows(text):
    """Two lists, of the places and of the firings, each in a tuple behind the number of its row."""
    places = []
    firings = []
    for number, row in enumerate(text, start=1):
        if is_passed_over(row):
            continue
        reader = RowReader(number, row)
        if reader.word() == "place" and len(firings) == 0:
            places.append((number, reader.read_place()))
        elif reader.word() == "fire" and len(places) > 0:
            firings.append((number, reader.read_firing()))
        else:
            reader.refuse(0)
    if len(places) == 0:
        raise NoText(len(text) + 1, 1)
    return places, firings


def read_net(text):
    """The net that the text tells; whether its names are there, or twice, isn't looked at."""
    places, firings = numbered_rows(text)
    return (tuple([place for _, place in places]), tuple([firing for _, firing in firings]))


def first_rows(numbered):
    """From the names to the numbers of the first rows that tell of them."""
    rows = {}
    for number, thing in numbered:
        rows.setdefault(thing[0], number)
    return rows


def rows_of(text):
    """Two dicts, from the names of places, of firings, to the numbers of their rows, from 1 on."""
    places, firings = numbered_rows(text)
    return (first_rows(places), first_rows(firings))


def printed_parts(parts):
    """What a firing takes, or gives, as a text has it."""
    if len(parts) == 0:
        return "0"
    return " + ".join([name if count == 1 else f"{count} {name}" for name, count in parts])


def printed_firing(firing):
    """The firing's row."""
    name, label, takes, gives = firing
    head = f"fire {name}" if label == "" else f"fire {name} as {label}"
    return f"{head} : {printed_parts(takes)} -> {printed_parts(gives)}"


def printed(net):
    """A text that read_net reads to just that net."""
    check_net(net)
    places, firings = net
    return [f"place {name} {start}" for name, start in places] + [printed_firing(firing) for firing in firings]
