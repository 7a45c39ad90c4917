"""Metres [14]: their texts read, refused at the word where none can go on, and written again."""

import itertools
import re
import unittest

from lilt.errors import LiltError, NoMetre
from lilt.metres import read_metre, written_metre

SLOT = r"[ux-]{1,4}(/[ux-]{1,4}){0,3}"
METRE = re.compile(rf"{SLOT}( \|)?( {SLOT}( \|)?){{0,11}}")

# Each text with the number of the word at which it is refused.
NO_METRES = (
    # a word without signs
    ("", 0), (" ", 0), ("  ", 0), (" -", 0), ("- ", 1), ("-  u", 1), ("- u ", 2), ("- | ", 2), ("- |  u", 2),
    ("u u u  u", 3),
    # a cut that is behind no slot, or behind another cut
    ("|", 0), ("| -", 0), ("| |", 0), ("- | |", 2), ("- | u | |", 4), ("- | | u", 2), ("- ||", 1),
    # a cut that no blank parts
    ("-|", 0), ("-| u", 0), ("- |u", 1), ("- u|", 1), ("-/| u", 0), ("- |/-", 1), ("- | u/|", 2),
    # a pattern without signs
    ("/", 0), ("-/", 0), ("/-", 0), ("-//u", 0), ("- u/", 1), ("- | /u", 2), ("- //", 1), ("- | u -u/ x", 3),
    # signs that are no marks
    ("a", 0), ("U", 0), ("X", 0), ("- _", 1), ("- u.", 1), ("u- =", 1), ("-uu/--;", 0), ("-\\u", 0), ("- o | -", 1),
    ("-\t-", 0), ("- \tu", 1), ("-\n", 0), ("- -\n", 1), ("\n", 0), ("u \n u", 1), ("-\r", 0),
    # too many marks
    ("uuuuu", 0), ("-uuu x-x-x", 1), ("-uu/-----", 0), ("- | uuuuuu", 2), ("xxxxx |", 0),
    # the same pattern twice
    ("u/u", 0), ("-uu/--/-uu", 0), ("- x/x", 1), ("- | x-/-x/-x u", 2), ("u/-/x/u", 0),
    # too many patterns
    ("u/-/x/uu/--", 0), ("- u/-/x/uu/--", 1), ("- | -u/u-/x/uu/--/xx |", 2), ("u/u/u/u/u", 0),
    # too many slots
    (" ".join(["-"] * 13), 12), (" ".join(["-"] * 14), 12), (" ".join(["- |"] * 13), 24),
    (" ".join(["-"] * 12) + " | u", 13), (" ".join(["u/- |"] * 6 + ["x"] * 8), 18), (" ".join(["-"] * 1000), 12),
    # behind the twelfth slot
    (" ".join(["-"] * 12) + " ", 12), (" ".join(["-"] * 12) + " | |", 13), (" ".join(["-"] * 12) + " y", 12),
    # of several faults the first
    ("- a b", 1), ("a b c", 0), ("- |  a", 2), ("- u/u uuuuu |", 1), ("- uuuuu u/u", 1),
)


def refused_at(text):
    """The number of the word at which a text is refused, or None where it is read."""
    try:
        read_metre(text)
    except NoMetre as refusal:
        return refusal.at
    return None


def is_written(text):
    """Whether a text is written as the document tells."""
    slots = [word.split("/") for word in text.split(" ")]
    return METRE.fullmatch(text) is not None and all(len(set(patterns)) == len(patterns) for patterns in slots)


class Read(unittest.TestCase):
    def test_the_document_s_own(self):
        self.assertEqual(read_metre("-uu/-- -x | u-"), ((("-uu", "--"), False), (("-x",), True), (("u-",), False)))

    def test_the_least(self):
        for mark in "u-x":
            self.assertEqual(read_metre(mark), (((mark,), False),))
            self.assertEqual(read_metre(mark + " |"), (((mark,), True),))

    def test_patterns_stay_in_their_order(self):
        for patterns in itertools.permutations(("u", "-", "x", "uu")):
            self.assertEqual(read_metre("/".join(patterns)), ((patterns, False),))

    def test_every_pattern_of_one_to_four_marks(self):
        for many in (1, 2, 3, 4):
            for marks in itertools.product("u-x", repeat=many):
                pattern = "".join(marks)
                self.assertEqual(read_metre(pattern), (((pattern,), False),))

    def test_patterns_that_are_unlike_though_they_stand_for_the_same(self):
        self.assertEqual(read_metre("x/u/-"), ((("x", "u", "-"), False),))
        self.assertEqual(read_metre("xx/uu/x-/xu"), ((("xx", "uu", "x-", "xu"), False),))

    def test_twelve_slots_with_and_without_cuts(self):
        self.assertEqual(read_metre(" ".join(["u/-"] * 12)), ((("u", "-"), False),) * 12)
        self.assertEqual(read_metre(" ".join(["u/- |"] * 12)), ((("u", "-"), True),) * 12)
        self.assertEqual(read_metre(" ".join(["u"] * 12) + " |"), ((("u",), False),) * 11 + ((("u",), True),))

    def test_the_largest(self):
        slot = "xxxx/----/uuuu/-u-u"
        self.assertEqual(read_metre(" ".join([slot + " |"] * 12)), ((tuple(slot.split("/")), True),) * 12)

    def test_the_same_slot_may_come_again(self):
        self.assertEqual(read_metre("-u -u | -u"), ((("-u",), False), (("-u",), True), (("-u",), False)))

    def test_kinds(self):
        metre = read_metre("-uu/-- | x")
        self.assertIs(type(metre), tuple)
        for slot in metre:
            self.assertEqual([type(thing) for thing in slot], [tuple, bool])
            self.assertIs(type(slot), tuple)
            self.assertTrue(all(type(pattern) is str for pattern in slot[0]))


class Refused(unittest.TestCase):
    def test_each_kind_of_fault_with_its_number(self):
        for text, at in NO_METRES:
            with self.subTest(text=text):
                self.assertEqual(refused_at(text), at)

    def test_every_other_sign(self):
        for number in range(32, 127):
            sign = chr(number)
            if sign not in "u-x %":
                self.assertEqual(refused_at(sign), 0)
                self.assertEqual(refused_at("-" + sign), 0)
                self.assertEqual(refused_at("u | -" + sign + "u/--"), None if sign == "/" else 2)
                self.assertEqual(refused_at("u- " + sign), None if sign == "|" else 1)

    def test_all_short_texts(self):
        # A metre's words from the first on are a metre wherever one stops, so none goes on where they are none.
        for many in range(7):
            for signs in itertools.product("u-/| ", repeat=many):
                text = "".join(signs)
                words = text.split(" ")
                heads = [" ".join(words[:at + 1]) for at in range(len(words))]
                faults = [at for at, head in enumerate(heads) if not is_written(head)]
                self.assertEqual(refused_at(text), faults[0] if faults else None, text)

    def test_the_field_and_the_class(self):
        with self.assertRaises(NoMetre) as caught:
            read_metre("- y")
        self.assertIs(type(caught.exception.at), int)
        self.assertIsInstance(caught.exception, LiltError)


class Written(unittest.TestCase):
    def test_the_document_s_own(self):
        metre = ((("-uu", "--"), False), (("-x",), True), (("u-",), False))
        self.assertEqual(written_metre(metre), "-uu/-- -x | u-")

    def test_cuts_anywhere(self):
        self.assertEqual(written_metre(((("u",), True),)), "u |")
        self.assertEqual(written_metre(((("u", "-"), True), (("x",), True))), "u/- | x |")
        self.assertEqual(written_metre(((("u",), False), (("x", "--"), False))), "u x/--")

    def test_what_is_read_is_written_as_it_was(self):
        texts = ["-uu/-- -uu/-- - | uu/- -uu/-- -uu -x", " ".join(["u/-/x/xx |"] * 12), "x/-u/u-/uuuu x | x"]
        for text in texts:
            self.assertEqual(written_metre(read_metre(text)), text)

    def test_all_short_texts(self):
        seen = {}
        for many in range(1, 7):
            for signs in itertools.product("u-/| ", repeat=many):
                text = "".join(signs)
                if is_written(text):
                    metre = read_metre(text)
                    self.assertEqual(written_metre(metre), text)
                    self.assertNotIn(metre, seen)
                    seen[metre] = text
        self.assertGreater(len(seen), 300)


if __name__ == "__main__":
    unittest.main()
