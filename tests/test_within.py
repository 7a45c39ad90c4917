"""Metres held against one another [28]: the first said row beyond another metre, and the first that reads twice."""

import itertools
import random
import unittest

from lilt.feet import many_feet
from lilt.metres import read_metre, written_metre
from lilt.within import metre_within, read_twice
from plain import feet_in, first_beyond, first_twice, said_rows

HEXAMETER = "-uu/-- -uu/-- -uu/-- -uu/-- -uu/-- -x"
DACTYL_AT_LAST = "-uu/-- -uu/-- -uu/-- -uu/-- -uu -x"
FIVE = "xxxx xxxx xxxx xxxx xxxx "

# The one metre, the other, and the first said row of the one that is not of the other, or None.
HELD = (
    # the same rows
    ("u -", "u -", None), ("uu", "u u", None), ("u u", "uu", None), ("-u/--", "-x", None), ("-x", "-u/--", None),
    ("x", "u/-", None), ("u/-", "x", None), ("u/-/x", "x", None), ("uu/-", "-/uu", None), (HEXAMETER, HEXAMETER, None),
    # fewer rows, and then those beyond
    ("u -", "x x", None), ("x x", "u -", "u u+"), ("x x", "uu", "u -+"), ("x x", "ux", "- u+"),
    ("x x", "ux/-u", "- -+"),
    ("u", "u/-", None), ("u/-", "u", "-+"), ("u/-", "-", "u+"), ("u", "u/uu", None), ("u/uu", "u", "u u+"),
    ("u", "-", "u+"), ("-", "u", "-+"), ("x", "u", "-+"), ("x", "-", "u+"),
    # the shorter one first, whatever its marks
    ("--/uuu", "x", "- -+"), ("uuu/--", "x", "- -+"), ("u/- u/uu", "x x", "u u u+"), ("uuuu/-", "uu", "-+"),
    ("x x x", "x", "u u u+"), ("x", "x x x", "u+"),
    # a cut alone
    ("u | -", "u -", None), ("u -", "u | -", "u -+"), ("uu", "u | u", "u u+"), ("u | u", "uu", None),
    ("u | u", "u u |", None), ("u -", "u - |", None), ("u - |", "u -", None), ("u - |", "u | -", "u -+"),
    ("u | u u", "u u | u", "u+ u u+"), ("u u | u", "u | u u", "u u+ u+"), ("u u u", "u | u | u", "u u u+"),
    ("u | u | u", "u u | u", None), ("u | u u", "u | u | u", "u+ u u+"), ("x | x", "u | x/-x", "-+ u+"),
    # a cut that one pattern has and another one hasn't
    ("u/uu | u", "u u/uu", None), ("u u/uu", "u/uu | u", "u u+"), ("u | u/uu", "u/uu | u", "u+ u u+"),
    ("u | u/uu", "u/uu u/uu", None),
    # only at the end of a long row
    (DACTYL_AT_LAST, HEXAMETER, None), (HEXAMETER, DACTYL_AT_LAST, "- - - - - - - - - - - u+"),
    (FIVE + "xxxx", FIVE + "xxx-", "u " * 23 + "u+"), (FIVE + "xxx-", FIVE + "xxxx", None),
    (FIVE + "xxx-", FIVE + "xxxu", "u " * 23 + "-+"), (FIVE + "xxxx", FIVE + "xxxu/xxx-", None),
    (FIVE + "x", FIVE + "| x", "u " * 20 + "u+"), (FIVE + "| x", FIVE + "x", None),
    (FIVE + "xxxx/xxx", FIVE + "xxx", "u " * 23 + "u+"), (FIVE + "xxxx/xxx", FIVE + "xxxx", "u " * 22 + "u+"),
    # slots that are cut otherwise
    ("-u -u -u", "- u- u- u", None), ("- u- u- u", "-u -u -u", None), ("xxxx xx", "xx xx xx", None),
    ("-uu/-- -uu/--", "-/-u u/-/u- uu/-", "- - - -+"), ("x/xx x/xx", "xx/xxx/xxxx", None),
    ("xx/xxx/xxxx", "x/xx x/xx", None),
)

# The metre, and the first said row that has two lists of feet in it, or None.
READ = (
    ("u", None), ("x", None), ("u/-", None), ("u/uu", None), ("-uu/--", None), ("u/uu u", None), (HEXAMETER, None),
    ("x x x x x x", None), ("u/-u -u/-", None),
    # at the first said row
    ("u/x", "u+"), ("x/u", "u+"), ("-/x", "-+"), ("x/-", "-+"), ("u/-/x", "u+"), ("ux/xu", "u u+"), ("-x/x-", "- -+"),
    ("u/x |", "u+"), ("u/x u/x", "u u+"), ("-x/xu -", "- u -+"), ("uuu/xx", None), ("x/xx x/xx x", "u u u u+"),
    # by two ways of cutting it
    ("u/uu u/uu", "u u u+"), ("x/xx x/xx", "u u u+"), ("-/-u u-/-", "- u -+"), ("u/uu u/-", None),
    ("u/uuu uu/u", None), ("u/uuu u/uuu", "u u u u+"), ("-/-- u -/--", None), ("-/-- x -/--", "- - - -+"),
    # by cuts
    ("u/uu | u/uu", "u+ u+ u+"), ("u/uu | u/uu |", "u+ u+ u+"), ("u/x | u", "u+ u+"), ("x/xx | -u/u", "u+ -+ u+"),
    ("u/uu | u/uu u", "u+ u+ u u+"), ("u u/uu | u/uu", "u u+ u+ u+"),
    # at the end of a long row
    (FIVE + "xxxu/xxx-", None), (FIVE + "xxxu/xxxx", "u " * 23 + "u+"), (FIVE + "xxx-/xxxx", "u " * 23 + "-+"),
    (FIVE + "x/xx/xxx/xxxx", None), ("u/uu u/uu u/uu u/uu u/uu u/uu", "u u u u u u u+"),
    ("-/-- u -/-- u -/-- u", None), ("- u - u - u/x", "- u - u - u+"),
)


def row_of(text):
    """A said row of a text, marks parted by blanks, a + behind each with which a word ends."""
    return None if text is None else [(word[0], word[1:] == "+") for word in text.split(" ")]


def small_metre(chance):
    """A metre whose rows are of at most six marks, by a told source of chance."""
    patterns = ["".join(signs) for many in (1, 2) for signs in itertools.product("u-x", repeat=many)]
    slots = range(chance.randint(1, 3))
    return tuple((tuple(chance.sample(patterns, chance.randint(1, 3))), chance.random() < 0.3) for slot in slots)


def changed(chance, metre):
    """A metre with one slot's pattern or cut changed, or with one pattern more."""
    at = chance.randrange(len(metre))
    patterns, cut = metre[at]
    new = chance.choice(("u", "-", "x", "ux", "xx", "x-"))
    kind = chance.randrange(3)
    if kind == 0:
        slot = (patterns, not cut)
    elif kind == 1 and new not in patterns:
        slot = (patterns + (new,), cut)
    else:
        slot = ((patterns[0].replace(chance.choice("u-"), "x"),), cut)
    return metre[:at] + (slot,) + metre[at + 1:]


class Within(unittest.TestCase):
    def test_by_hand(self):
        for one, other, row in HELD:
            with self.subTest(one=one, other=other):
                self.assertEqual(metre_within(read_metre(one), read_metre(other)), row_of(row))

    def test_a_told_row_is_of_the_one_alone(self):
        for one, other, row in HELD:
            if row is not None:
                self.assertGreater(many_feet(read_metre(one), row_of(row)), 0)
                self.assertEqual(many_feet(read_metre(other), row_of(row)), 0)

    def test_all_said_rows_one_by_one(self):
        rows = [row for row in said_rows(4)[1:] if row[-1][1]]
        texts = ("x", "u/uu", "u u", "u | u", "-u/x", "uu/-", "x x", "x | x", "u/- u/xx", "u/- | u/xx", "u/-u x |")
        for one, other in itertools.product([read_metre(text) for text in texts], repeat=2):
            beyond = [row for row in rows if feet_in(one, row) and not feet_in(other, row)]
            self.assertEqual(metre_within(one, other), beyond[0] if beyond else None)

    def test_by_chance(self):
        chance = random.Random(28)
        met = {True: 0, False: 0}
        for number in range(250):
            one = small_metre(chance)
            other = changed(chance, one) if chance.random() < 0.7 else small_metre(chance)
            told = metre_within(one, other)
            self.assertEqual((written_metre(one), written_metre(other), told),
                             (written_metre(one), written_metre(other), first_beyond(one, other)))
            met[told is None] = met[told is None] + 1
        self.assertGreater(min(met.values()), 50, met)

    def test_each_metre_is_within_itself(self):
        chance = random.Random(29)
        for number in range(100):
            metre = small_metre(chance)
            self.assertIs(metre_within(metre, metre), None)

    def test_six_slots_of_four_long_patterns(self):
        one = read_metre(" ".join(["x/xx/xxx/xxxx"] * 6))
        other = read_metre(" ".join(["x/xx/xxx/xxxx"] * 5 + ["x/xx/xxx"]))
        self.assertEqual(metre_within(one, other), row_of("u " * 23 + "u+"))
        self.assertIs(metre_within(other, one), None)
        one = read_metre("uxxx/xu-x/-x/xxu | uxux/xx-/x--u/-u xuxx/ux/-xx/xxx- | -xux/uux/xx/--xx uxx/x-xu/-uu x-x/u")
        self.assertIs(metre_within(one, one), None)

    def test_a_new_list_and_kinds(self):
        one, other = read_metre("u x"), read_metre("u | x")
        told = metre_within(one, other)
        self.assertIs(type(told), list)
        self.assertEqual([[type(part) for part in said] for said in told], [[str, bool], [str, bool]])
        self.assertEqual([type(said) for said in told], [tuple, tuple])
        told.append("x")
        self.assertEqual(metre_within(one, other), row_of("u u+"))
        self.assertEqual((one, other), (read_metre("u x"), read_metre("u | x")))


class Twice(unittest.TestCase):
    def test_by_hand(self):
        for text, row in READ:
            with self.subTest(metre=text):
                self.assertEqual(read_twice(read_metre(text)), row_of(row))

    def test_a_told_row_has_two_lists_of_feet(self):
        for text, row in READ:
            if row is not None:
                self.assertGreater(many_feet(read_metre(text), row_of(row)), 1)

    def test_all_said_rows_one_by_one(self):
        rows = [row for row in said_rows(5)[1:] if row[-1][1]]
        texts = ("x", "u/uu", "u/uu u/uu", "u/uu | u/uu", "-u/x x", "uu/- u/-", "x/xx x/u", "x/xx | x/u", "x/u-/-u x")
        for metre in [read_metre(text) for text in texts]:
            twice = [row for row in rows if len(feet_in(metre, row)) > 1]
            self.assertEqual(read_twice(metre), twice[0] if twice else None)

    def test_by_chance(self):
        chance = random.Random(30)
        met = {True: 0, False: 0}
        for number in range(300):
            metre = small_metre(chance)
            told = read_twice(metre)
            self.assertEqual((written_metre(metre), told), (written_metre(metre), first_twice(metre)))
            met[told is None] = met[told is None] + 1
        self.assertGreater(min(met.values()), 50, met)

    def test_six_slots_of_four_long_patterns(self):
        self.assertEqual(read_twice(read_metre(" ".join(["x/xx/xxx/xxxx"] * 6))), row_of("u u u u u u u+"))
        self.assertEqual(read_twice(read_metre(" ".join(["uuu-/uu-/u-/-"] * 6))), None)

    def test_a_new_list_and_kinds(self):
        metre = read_metre("u/uu u/uu")
        told = read_twice(metre)
        self.assertIs(type(told), list)
        self.assertEqual([[type(part) for part in said] for said in told], [[str, bool]] * 3)
        told.append("x")
        self.assertEqual(read_twice(metre), row_of("u u u+"))
        self.assertEqual(metre, read_metre("u/uu u/uu"))


if __name__ == "__main__":
    unittest.main()
