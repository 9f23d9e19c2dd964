"""The places at which NoText points."""

import random
import re
import unittest

from tokenfold.errors import NoText
from tokenfold.nets import net_wrong
from tokenfold.texts import printed, read_net


def refused_at(text):
    """The row and the column at which the text is refused, None where it isn't."""
    try:
        read_net(text)
    except NoText as error:
        return (error.row, error.column)
    return None


class Marked(unittest.TestCase):
    """Of each row, the sign at which it is refused is the one ahead of which ! stands."""

    def refuses(self, *rows):
        for marked in rows:
            with self.subTest(marked):
                row = marked.replace("!", "", 1)
                column = marked.index("!") + 1
                self.assertEqual(refused_at(["place a 0", row]), (2, column))
                self.assertEqual(refused_at(["place a 0", "", "   " + row]), (3, column + 3))

    def test_the_documents_examples(self):
        self.refuses("fire t : !1 a -> 0", "fire t : 0 !a -> 0", "fire t : a + !0 -> 0", "fire t : a + 0!1 -> 0",
                     "place b 1!x", "fire t : 1!x -> 0")
        self.refuses("fire t : 0 -> !1 a", "fire t : 0 -> 0 !a", "fire t : 0 -> a + !0", "fire t : 0 -> a + 0!1")

    def test_words_at_the_begin(self):
        self.refuses("!b 0", "!as b", "!7", "!: b", "!+", "!->", "!placeb 0", "!fires : 0 -> 0", "!abcdefghijk")

    def test_words_of_places(self):
        self.refuses("place !place 0", "place !fire 0", "place !as 0", "place !0 b", "place !5b 0", "place !: 0",
                     "place b !c", "place b !as", "place b !: 0", "place b !+ 0", "place b !-> 0", "place b 0 !1",
                     "place b 0 !b", "place b 0 !place", "place b 0 !:", "place b 0!+1", "place b 0!->")

    def test_words_of_firings(self):
        self.refuses("fire !fire : 0 -> 0", "fire !as : 0 -> 0", "fire !0 : 0 -> 0", "fire !: 0 -> 0",
                     "fire t !0 -> 0", "fire t !t : 0 -> 0", "fire t !place : 0 -> 0", "fire t !-> 0",
                     "fire t as !: 0 -> 0", "fire t as !as : 0 -> 0", "fire t as !place : 0 -> 0", "fire t as !0 : 0 -> 0",
                     "fire t as l !as l : 0 -> 0", "fire t as l !0 -> 0", "fire t as l !l : 0 -> 0",
                     "fire t : !: 0 -> 0", "fire t : !-> 0", "fire t : !+ a -> 0", "fire t : !as -> 0")

    def test_words_of_parts(self):
        self.refuses("fire t : a !a -> 0", "fire t : a !2 a -> 0", "fire t : 2 !3 a -> 0", "fire t : 2 !-> 0",
                     "fire t : 2 !+ a -> 0", "fire t : 2 !place -> 0", "fire t : a + !-> 0", "fire t : a + !+ a -> 0",
                     "fire t : a + !1 a -> 0", "fire t : 0 !+ a -> 0", "fire t : 0 !0 -> 0", "fire t : !1 -> 0",
                     "fire t : a !: -> 0", "fire t : a -> !-> 0", "fire t : a -> b !-> 0", "fire t : a -> 0 !+ b",
                     "fire t : a -> b !b", "fire t : a -> b !2", "fire t : a -> 2 !0", "fire t : a -> a + !fire",
                     "fire t : 0 -> 0 !0", "fire t : a !as l -> 0")

    def test_bad_signs_of_numbers(self):
        self.refuses("place b 0!0", "place b 0!1", "place b 0!x", "place b 12!x4", "place b 123456789!0",
                     "place b 999999999!9", "place b 123456789!a", "place b 0!123456789", "place b 0!00", "place b 0!x0",
                     "fire t : 0!0 -> 0", "fire t : 0!2 a -> 0", "fire t : 0!a -> 0",
                     "fire t : 1!a a -> 0", "fire t : 2!a a -> 0", "fire t : 123456789!1 a -> 0", "fire t : a + 2!b -> 0",
                     "fire t : 0 -> 0!0", "fire t : 0 -> 5 a + 1!e", "fire t : 0 -> 100000000!0a")

    def test_numbers_where_none_may_stand_are_refused_whole(self):
        self.refuses("place !01 0", "place b 0 !1x", "fire !1x : 0 -> 0", "fire t : a !01 -> 0", "fire t : 2 !1x -> 0",
                     "fire t as !00 : 0 -> 0", "!1234567890", "fire t !12x : 0 -> 0")

    def test_ninth_signs_of_names(self):
        self.refuses("place abcdefgh!i 0", "place abcdefgh!ijkl 0", "place placepla!ce 0", "place a1234567!8 0",
                     "fire abcdefgh!i : 0 -> 0", "fire t as abcdefgh!i : 0 -> 0", "fire t : abcdefgh!i -> 0",
                     "fire t : 2 abcdefgh!ijk -> 0", "fire t : a + abcdefgh!i -> 0", "fire t : 0 -> abcdefgh!i")

    def test_long_names_where_none_may_stand_are_refused_whole(self):
        self.refuses("!abcdefghi 0", "place b !abcdefghi", "fire t !abcdefghi : 0 -> 0", "fire t : 0 !abcdefghi -> 0",
                     "fire t : a !abcdefghi -> 0", "place b 0 !placeplace")

    def test_signs_that_no_word_has(self):
        self.refuses("!%", "!A", "place !B 0", "place b!B 0", "place b !-1", "place b 1!.5", "place b 0 !;", "place b 0!~",
                     "fire t !- 0", "fire t : a !- > 0", "fire t : a !-", "fire t : a !--> 0", "fire t : a !> 0",
                     "fire t : a!-b -> 0", "fire t : a !-- b", "fire t : 2!A -> 0", "fire t : 0!A -> 0", "!- -", "!_",
                     "fire !_t : 0 -> 0", "fire t : a ->!> 0", "fire t : a !* 2 -> 0", "place b!\t0", "!\xe4", "!\t",
                     "place b !\xb2", "place b !\u0663")

    def test_the_leftmost(self):
        self.refuses("fire t : !1 % -> 0", "fire t : !1 abcdefghi -> 0", "place abcdefgh!i%", "place b 0!0%",
                     "fire t : a + 2 !2 %", "!x %", "fire t : 1!x abcdefghi")

    def test_rows_that_should_go_on(self):
        self.refuses("place!", "place b!", "fire!", "fire t!", "fire t as!", "fire t as l!", "fire t :!", "fire t : 0!",
                     "fire t : a!", "fire t : 2!", "fire t : a +!", "fire t : a + 2!", "fire t : a ->!", "fire t:a->!",
                     "fire t : a -> 2!", "fire t : a -> b +!", "fire t : a -> 3 b + 2!")
        self.refuses("place!   ", "place b!  ", "fire t : a +!     ")


class Texts(unittest.TestCase):

    def test_texts_that_should_go_on(self):
        self.assertEqual(refused_at([]), (1, 1))
        self.assertEqual(refused_at([""]), (2, 1))
        self.assertEqual(refused_at(["-- a remark", "   ", "--", ""]), (5, 1))

    def test_firings_ahead_of_places(self):
        self.assertEqual(refused_at(["fire t : 0 -> 0", "place a 0"]), (1, 1))
        self.assertEqual(refused_at(["", "  fire t : 0 -> 0"]), (2, 3))
        self.assertEqual(refused_at(["fire %"]), (1, 1))

    def test_places_behind_firings(self):
        self.assertEqual(refused_at(["place a 0", "fire t : 0 -> 0", " place b 0"]), (3, 2))
        self.assertEqual(refused_at(["place a 0", "fire t : 0 -> 0", "place"]), (3, 1))

    def test_the_first_of_several(self):
        self.assertEqual(refused_at(["place a", "place %", "fire"]), (1, 8))
        self.assertEqual(refused_at(["place a 0", "", "place b 00 %", "fire t : %"]), (3, 10))

    def test_rows_passed_over_count(self):
        self.assertEqual(refused_at(["", "-- x", "place a 0", "  ", "place"]), (5, 6))

    def test_what_is_no_remark(self):
        self.assertEqual(refused_at(["place a 0 -- a remark"]), (1, 11))
        self.assertEqual(refused_at(["- - place a 0"]), (1, 1))


def words_at(row):
    """The words of the row, with their columns, told by a pattern."""
    return [(found.group(), found.start() + 1) for found in re.finditer("[a-z0-9]+|->|[^ ]", row)]


def kind_of(word):
    """One letter for each kind of word."""
    if word in ("place", "fire", "as", ":", "+", "->", "0", "1"):
        return {"place": "P", "fire": "F", "as": "A", ":": ":", "+": "+", "->": ">", "0": "0", "1": "1"}[word]
    if re.fullmatch("[a-z][a-z0-9]*", word):
        return "N"
    return "2" if word[0] in "0123456789" else "?"


def parts_told(many):
    """All kinds' rows of parts with at most so many."""
    rows = ["N", "2N"]
    for _ in range(many - 1):
        rows = rows + [f"{row}+{part}" for row in rows for part in ("N", "2N")]
    return sorted(set(rows)) + ["0"]


def fire_rows(many):
    """All kinds' rows of firings with at most so many parts at each end."""
    labels = ("", "AN")
    return [f"FN{label}:{takes}>{gives}" for label in labels for takes in parts_told(many) for gives in parts_told(many)]


PLACE_ROWS = ["PN0", "PN1", "PN2"]
FIRE_ROWS = fire_rows(4)
BEGINS = {row[:end]: True for row in PLACE_ROWS + FIRE_ROWS for end in range(len(row) + 1)}
WHOLE = {row: True for row in PLACE_ROWS + FIRE_ROWS}


def first_bad(word):
    """How many signs stand ahead of the number's first bad one, None where there is none."""
    good = re.match("0|[1-9][0-9]{0,8}", word).end()
    return good if good < len(word) else None


def expected_of_row(row, firsts):
    """The column at which a row is refused, by all begins of rows there can be; firsts: the words it may begin with."""
    ahead = ""
    for word, column in words_at(row):
        kind = kind_of(word)
        if ahead == "" and kind not in firsts:
            return column
        if kind in "012" and any(ahead + number in BEGINS for number in "012") and first_bad(word) is not None:
            return column + first_bad(word)
        if ahead + kind not in BEGINS:
            return column
        if kind == "N" and len(word) > 8:
            return column + 8
        ahead += kind
    return None if ahead in WHOLE else len(row.rstrip(" ")) + 1


def expected(text):
    """The row and the column at which the text is refused, None where it isn't."""
    firsts = "P"
    for number, row in enumerate(text, start=1):
        if re.match(" *(--|$)", row):
            continue
        column = expected_of_row(row, firsts)
        if column is not None:
            return (number, column)
        firsts = "F" if row.lstrip(" ").startswith("fire") else ("PF" if firsts == "P" else firsts)
    return (len(text) + 1, 1) if firsts == "P" else None


class ManyTexts(unittest.TestCase):
    """Texts by chance, always the same ones, against all begins of rows there can be."""

    WORDS = ["place", "fire", "as", ":", "+", "->", "0", "1", "2", "12", "01", "1x", "1234567890", "a", "b9",
             "abcdefgh", "abcdefghi", "-", ">", "A", "%", "--"]
    # two words more at most: so no row gets more parts than FIRE_ROWS has
    SHORT_ROWS = fire_rows(2)

    def row(self, chance):
        kinds = chance.choice(chance.choice([PLACE_ROWS, self.SHORT_ROWS]))
        told = {"P": "place", "F": "fire", "A": "as", ">": "->", "N": "ab", "2": "37"}
        words = [told.get(kind, kind) for kind in kinds]
        for _ in range(chance.choice([0, 0, 1, 1, 2])):
            at = chance.randrange(len(words) + 1)
            words[at:at + chance.randrange(2)] = [chance.choice(self.WORDS)] * chance.randrange(2)
        blanks = ["", " ", " ", " ", "  "]
        return "".join([chance.choice(blanks) + word for word in words]) + chance.choice(blanks)

    def test_many(self):
        chance = random.Random(20261)
        seen = set()
        for _ in range(20000):
            text = ["place q 4"] * chance.randrange(2) + [self.row(chance) for _ in range(chance.randrange(3))]
            told = expected(text)
            self.assertEqual(refused_at(text), told, text)
            seen.add(told is None)
        self.assertEqual(seen, {True, False})

    def test_nets_read_again(self):
        chance = random.Random(7)
        for _ in range(500):
            names = [f"n{k}" for k in range(chance.randrange(1, 6))]
            places = tuple([(name, chance.choice([0, 1, 12, 999999999])) for name in names])
            firings = []
            for k in range(chance.randrange(4)):
                takes, gives = [tuple([(name, chance.choice([1, 2, 999999999])) for name in names
                                       if chance.randrange(2)]) for _ in range(2)]
                firings.append((f"f{k}", chance.choice(["", "l", f"n{k}"]), takes, gives))
            net = (places, tuple(firings))
            self.assertIsNone(net_wrong(net))
            self.assertEqual(read_net(printed(net)), net)


if __name__ == "__main__":
    unittest.main()
