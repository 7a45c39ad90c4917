"""Forms held against one another [29]: the first fault of the one by the other, and the names that both ask for."""

import copy
import itertools
import random
import unittest

from lilt.errors import LiltError, NoName
from lilt.forms import plain_rows, read_form, times_of
from lilt.inside import form_within
from lilt.metres import read_metre
from lilt.poems import faults_of
from lilt.tongues import Tongue
from plain import form_faults, plain_of, some_form

METRES = {"s": read_metre("u"), "l": read_metre("-"), "x": read_metre("x"), "ss": read_metre("u u"),
          "cut": read_metre("u | u"), "xx": read_metre("x x"), "as": read_metre("x")}
SHORT = [("u", True)]
LONG = [("-", True)]
UNCUT = [("u", False), ("u", True)]

# The one form, the other, and the first fault or None.
HELD = (
    # of the same rows
    ("x -", "x -", None), ("x a", "x a", None), ("x a; x a", "x b; x b", None), ("x a; x a", "x A; x A", None),
    ("x a; as 1", "x b; as 1", None), ("x a; x b; x a", "x b; x a; x b", None), ("x -", "as -", None),
    # rows
    ("x -", "x -; x -", ("rows", 1)), ("x -; x -", "x -", ("rows", 2)), ("x -; as 1", "x -", ("rows", 2)),
    ("(; x -; ) 0 1", "x -", ("rows", 0)), ("(; x -; ) 0 1", "(; x -; ) 0 4", None),
    ("(; x -; ) 0 4", "(; x -; ) 0 1", ("rows", 2)), ("(; x -; ) 1 4", "(; x -; ) 2 4", ("rows", 1)),
    ("(; x -; ) 2 4", "(; x -; ) 1 4", None), ("(; x -; ) 2 2", "x -; x -", None),
    ("x -; x -", "(; x -; ) 2 2", None), ("x -; x -", "(; x -; ) 1 3", None),
    ("(; x -; ) 1 2", "x -; x -", ("rows", 1)),
    # times that differ
    ("(; x -; x -; ) 1 2", "(; x -; ) 2 4", None), ("(; x -; ) 2 4", "(; x -; x -; ) 1 2", ("rows", 3)),
    ("(; x -; x -; ) 0 2", "(; x -; ) 0 4", None), ("(; x a; x a; ) 1 2", "(; x -; ) 2 4", None),
    ("x -; (; x -; ) 0 2", "(; x -; ) 1 3", None), ("(; x -; ) 1 3", "(; x -; ) 0 2; x -", None),
    ("(; x -; x -; ) 1 2", "(; x A; ) 2 4", ("rhyme", 2, 1, 0)),
    ("(; x a; x a; ) 1 2", "(; x A; ) 2 4", ("rhyme", 4, 2, 0)), ("(; x A; x A; ) 1 2", "(; x a; ) 2 4", None),
    ("(; x a; x a; ) 1 2", "(; x a; x a; ) 0 2", None), ("(; x -; ) 1 4", "(; s -; ) 1 1", ("metre", 1, 0, LONG)),
    ("(; x -; ) 1 4", "(; x -; ) 1 2", ("rows", 3)), ("(; x -; ) 1 3", "(; x -; ) 0 1; s -; x -", ("rows", 1)),
    ("(; x -; ) 2 3", "(; x -; ) 0 1; s -; x -", ("metre", 2, 0, LONG)),
    # metres
    ("s -", "x -", None), ("x -", "s -", ("metre", 1, 0, LONG)), ("x -", "l -", ("metre", 1, 0, SHORT)),
    ("s -; x -; x -", "x -; l -; s -", ("metre", 3, 1, SHORT)), ("cut -", "ss -", None),
    ("ss -", "cut -", ("metre", 1, 0, UNCUT)), ("ss -; as 1", "ss -; ss -", None),
    ("ss -; as 1", "ss -; cut -", ("metre", 2, 1, UNCUT)),
    ("s -; s -; as 1", "x -; l -; as 1", ("metre", 3, 1, SHORT)),
    ("x -; s -; s -", "x -; s -; as 1", ("again", 3, 2, 0)),
    ("x -; s -; x -", "s -; x -; as 1", ("metre", 3, 0, LONG)),
    ("s -; x -; x -", "s -; x -; as 1", ("metre", 3, 2, LONG)),
    # rhymes
    ("x a; x a", "x -; x -", None), ("x -; x -", "x a; x a", ("rhyme", 2, 1, 0)),
    ("x a; x b", "x a; x a", ("rhyme", 2, 1, 0)), ("x a; x A", "x a; x a", ("rhyme", 2, 1, 0)),
    ("x a; x a; x a", "x a; x b; x a", None), ("x a; x b; x a", "x a; x a; x a", ("rhyme", 3, 1, 0)),
    ("x a; x a; x b", "x a; x a; x a", ("rhyme", 3, 2, 0)),
    ("x a; x b; x a; x b", "x a; x a; x b; x b", ("rhyme", 4, 1, 0)),
    ("x a; x b; x b", "x a; x b; x a", ("rhyme", 3, 2, 0)),
    ("x a; x a; x b; x -", "x b; x b; x c; x b", ("rhyme", 4, 3, 0)),
    ("x a; x b; x b", "x a; x -; x a", ("rhyme", 3, 2, 0)),
    ("x a; x -; x a; x -", "x a; x b; x a; x b", ("rhyme", 4, 3, 1)), ("x -; x b; x b", "x -; x A; x A", None),
    # in a stanza
    ("(; x A; ) 1 3", "(; x a; ) 1 3", None), ("(; x a; ) 1 3", "(; x A; ) 1 3", ("rhyme", 2, 1, 0)),
    ("x a; (; x a; ) 1 1", "x A; (; x A; ) 1 1", ("rhyme", 2, 1, 0)),
    ("x A; (; x A; ) 1 1", "x a; (; x a; ) 1 1", None), ("x a; (; x -; ) 1 1; x a", "x a; x -; x a", None),
    ("(; x a; x a; ) 1 2", "(; x a; x b; ) 1 2", None),
    # rows bound only by way of a return
    ("x a; x a; as 1", "x a; x a; x a", None), ("x a; as 1; as 1", "x a; x a; x a", None),
    ("x -; as 1", "x a; x a", None), ("x a; x a; as 1; as 2", "x -; x -; x b; x b", None),
    ("x a; x b; as 1; as 2", "x -; x -; x b; x b", ("rhyme", 4, 3, 2)),
    ("x a; x b; as 1; as 1", "x -; x -; x b; x b", None),
    ("x -; x -; as 1; as 2", "x -; x -; x b; x b", ("rhyme", 4, 3, 2)),
    ("x a; x b; as 1; x b", "x -; x -; x c; x c", ("rhyme", 4, 3, 2)),
    ("x a; x b; as 1; x a", "x -; x -; x c; x c", None), ("x a; x b; as 2; x b", "x a; x -; x b; x b", None),
    ("x a; x b; as 2; x b", "x a; x -; x a; x -", ("rhyme", 4, 2, 0)),
    ("(; x a; as 1; ) 1 2; as 1", "(; x -; x -; ) 1 2; x -", None),
    ("(; x a; as 1; ) 2 2; as 1", "x -; x -; x b; x b; x b", None),
    ("(; x a; as 1; ) 2 2; as 1", "x b; x b; x -; x -; x b", ("rhyme", 5, 4, 0)),
    # again
    ("x a; x a", "x -; as 1", ("again", 2, 1, 0)), ("x a; as 1", "x -; as 1", None),
    ("x -; x -; as 1", "x -; x -; as 2", ("again", 3, 2, 1)), ("x -; as 1; as 1", "x -; x -; as 2", None),
    ("x -; as 1; x -; as 3", "x -; as 1; as 1; as 1", ("again", 4, 2, 0)),
    ("x -; x -; as 1; as 2", "x -; x -; as 1; as 1", ("again", 4, 3, 0)),
    ("x -; x -; as 1; as 1", "x -; x -; x -; as 3", None), ("(; x -; as 1; ) 2 2", "(; x -; as 1; ) 1 2", None),
    ("(; x -; as 1; ) 1 2", "x -; (; as 1; ) 1 3", ("again", 4, 2, 0)),
    ("x -; (; as 1; ) 1 3", "(; x -; as 1; ) 1 2", ("rows", 3)), ("x -; (; as 1; ) 1 1", "(; x -; as 1; ) 1 2", None),
    ("(; x -; as 1; ) 2 2; as 1", "x -; as 1; x -; as 3; as 3", None),
    ("(; x -; as 1; ) 2 2; as 1", "x -; as 1; x -; as 3; as 1", ("again", 5, 4, 0)),
    # the first of several: in a row metre, rhyme, again; row by row; by the less times
    ("x a; x b", "x a; s a", ("metre", 2, 1, LONG)), ("x a; x b; s -", "x a; x a; l -", ("rhyme", 3, 1, 0)),
    ("x a; x b; x -; x -", "x -; x b; as 1; x b", ("again", 4, 2, 0)),
    ("x -; x -; x -", "x -; as 1; s -", ("again", 3, 1, 0)),
    ("(; x -; ) 1 3", "x -; (; s -; ) 0 1", ("metre", 2, 1, LONG)),
    ("(; x a; ) 1 3", "(; x A; ) 1 2", ("rhyme", 2, 1, 0)),
)


def within(one, other):
    return form_within(read_form(one), read_form(other), METRES)


class ByHand(unittest.TestCase):
    def test_the_first_fault(self):
        for one, other, fault in HELD:
            with self.subTest(one=one, other=other):
                self.assertEqual(within(one, other), fault)

    def test_twelve_rows_four_times(self):
        one = "(; " + "; ".join(["x A"] * 12) + "; ) 1 4"
        self.assertIs(within(one, one), None)
        other = "(; " + "; ".join(["x A"] * 6) + "; ) 2 4"
        self.assertEqual(within(one, other), ("rows", 36))
        last = "(; " + "; ".join(["x A"] * 11) + "; x b; ) 1 4"
        self.assertEqual(within(last, one), ("rhyme", 12, 11, 0))
        self.assertIs(within(one, last), None)

    def test_a_metre_of_six_slots(self):
        metres = {"one": read_metre("-uu/-- -uu/-- -uu/-- -uu/-- -uu -x"),
                  "other": read_metre("-uu/-- -uu/-- -uu/-- -uu/-- -uu/-- -x")}
        one, other = read_form("(; one a; as 1; ) 1 4"), read_form("(; other a; as 1; ) 1 4")
        self.assertIs(form_within(one, other, metres), None)
        self.assertEqual(form_within(other, one, metres), ("metre", 2, 0, [("-", False)] * 11 + [("u", True)]))

    def test_kinds(self):
        for one, other, fault in HELD:
            if fault is not None:
                told = within(one, other)
                self.assertIs(type(told), tuple)
                self.assertEqual([type(part) for part in told], [type(part) for part in fault])


class Refused(unittest.TestCase):
    def test_a_name_that_lacks_in_the_one_or_the_other(self):
        for one, other in (("no -", "x -"), ("x -", "no -"), ("no -", "no -"), ("x -; no -", "x -; x -"),
                           ("x -; x -", "x -; no -"), ("(; no -; ) 1 1", "x -"), ("x -", "(; no -; ) 1 1")):
            with self.assertRaises(NoName) as caught:
                within(one, other)
            self.assertIsInstance(caught.exception, LiltError)

    def test_ahead_of_any_fault(self):
        self.assertRaises(NoName, within, "x -; x -; no -", "s -")
        self.assertRaises(NoName, within, "x -", "s -; no -")
        self.assertRaises(NoName, within, "x -; x -", "s a; s a; (; no -; ) 0 1")

    def test_in_a_stanza_that_comes_no_times(self):
        self.assertRaises(NoName, within, "x -; (; no -; ) 0 1", "x -")
        self.assertRaises(NoName, within, "x -", "x -; (; no -; ) 0 1")

    def test_a_dict_without_names(self):
        self.assertRaises(NoName, form_within, read_form("x -"), read_form("x -"), {})


class Own(unittest.TestCase):
    def test_nothing_changed_and_new_lists(self):
        metres = dict(METRES)
        one, other = read_form("x a; as 1; x -; x -"), read_form("x -; x -; s a; s a")
        before = copy.deepcopy((metres, one, other))
        told = form_within(one, other, metres)
        self.assertEqual(told, ("metre", 4, 2, LONG))
        told[3].append("x")
        self.assertEqual(form_within(one, other, metres), ("metre", 4, 2, LONG))
        self.assertEqual((metres, one, other), before)
        self.assertEqual(LONG, [("-", True)])


class AgainstTheWords(unittest.TestCase):
    PARTS = ("x a", "x a", "s a", "x b", "x A", "s A", "ss -", "cut -", "x -", "as b", "as 1", "as 2", "as 3")

    def test_by_chance(self):
        chance = random.Random(29)
        met = {None: 0, "rows": 0, "metre": 0, "rhyme": 0, "again": 0}
        for number in range(1500):
            parts = some_form(chance, self.PARTS, 6)
            one = read_form("; ".join(parts))
            other = read_form("; ".join(self.changed(chance, parts)))
            told = form_within(one, other, METRES)
            faults = form_faults(one, other, METRES)
            self.assertEqual(told, faults[0] if faults else None)
            kind = None if told is None else told[0]
            met[kind] = met[kind] + 1
        self.assertGreater(min(met.values()), 40, met)

    def changed(self, chance, parts):
        """The parts with one or two rows or returns changed, where that is a form, else another form."""
        other = list(parts)
        for number in range(chance.randint(1, 2)):
            at = chance.randrange(len(other))
            if other[at][0] not in "()":
                other[at] = chance.choice(self.PARTS)
        try:
            read_form("; ".join(other))
        except LiltError:
            return some_form(chance, self.PARTS, 6)
        return other


class AgainstPoems(unittest.TestCase):
    """Of words for all marks, two rhymes and two beginnings, a poem is found wherever there is a fault."""

    TONGUE = Tongue(["carry a e o u", "long e", "either o u"])
    WORDS = tuple(stop + carrier + end for stop in "bd" for carrier in "ae" for end in ("do", "du"))
    METRES = {"s": read_metre("ux"), "l": read_metre("-x"), "x": read_metre("xx")}
    PARTS = ("x a", "x a", "s a", "l -", "x b", "x A", "x -", "as 1", "as 2")

    def poems_of(self, form):
        """All poems of the form, of at most three rows of one word each."""
        poems = []
        for many in range(4):
            plain = plain_of(form, many)
            if plain is not None:
                told = itertools.product(*[self.words_for(metre) for metre, bond, back in plain])
                poems.extend([[word] for word in words] for words in told)
        return [poem for poem in poems if not faults_of(self.TONGUE, self.METRES, form, poem)]

    def words_for(self, name):
        """The words that the metre doesn't rule out."""
        return [word for word in self.WORDS if word[1] != {"s": "e", "l": "a", "x": ""}[name]]

    def test_poem_by_poem(self):
        chance = random.Random(31)
        met = {True: 0, False: 0}
        while min(met.values()) < 12:
            one = read_form("; ".join(some_form(chance, self.PARTS, 3)))
            other = read_form("; ".join(some_form(chance, self.PARTS, 3)))
            rows = [len(plain_rows(one, times)) for times in times_of(one)]
            if rows[-1] > 3 or plain_of(other, rows[0]) is None:
                continue
            within_it = form_within(one, other, self.METRES) is None
            beyond = [poem for poem in self.poems_of(one) if faults_of(self.TONGUE, self.METRES, other, poem)]
            self.assertEqual(within_it, not beyond)
            met[within_it] = met[within_it] + 1


if __name__ == "__main__":
    unittest.main()
