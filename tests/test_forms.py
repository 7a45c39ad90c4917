"""Forms [25] [26]: their texts read, refused at the first part that is not as told, and written again."""

import random
import re
import unittest

from lilt.errors import LiltError, NoForm
from lilt.forms import read_form, times_of, written_form

ROWS = "; ".join(["hex a"] * 12)
WITH_RETURNS = "; ".join(["hex a"] * 6 + ["as 1"] * 6)

# Each text with its form.
FORMS = (
    ("hex a", (("row", "hex", "a"),)),
    ("hex -", (("row", "hex", None),)),
    ("hex A", (("row", "hex", "A"),)),
    ("h z", (("row", "h", "z"),)),
    ("abcdefgh Z", (("row", "abcdefgh", "Z"),)),
    ("as b", (("row", "as", "b"),)),
    ("as B", (("row", "as", "B"),)),
    ("as -", (("row", "as", None),)),
    ("row -; hex a; hex a", (("row", "row", None), ("row", "hex", "a"), ("row", "hex", "a"))),
    ("hex a; as 1", (("row", "hex", "a"), ("as", 1))),
    ("hex a; as 1; as 1", (("row", "hex", "a"), ("as", 1), ("as", 1))),
    ("hex a; as 1; pen -; as 3", (("row", "hex", "a"), ("as", 1), ("row", "pen", None), ("as", 3))),
    ("(; hex a; ) 0 1", (("(",), ("row", "hex", "a"), (")", 0, 1))),
    ("(; hex a; ) 4 4", (("(",), ("row", "hex", "a"), (")", 4, 4))),
    ("(; hex a; ) 0 4; pen b", (("(",), ("row", "hex", "a"), (")", 0, 4), ("row", "pen", "b"))),
    ("hex A; (; pen b; as 1; ) 1 3; as 2",
     (("row", "hex", "A"), ("(",), ("row", "pen", "b"), ("as", 1), (")", 1, 3), ("as", 2))),
    ("hex A; (; as 1; ) 0 2; as 1", (("row", "hex", "A"), ("(",), ("as", 1), (")", 0, 2), ("as", 1))),
    ("(; hex a; as 1; ) 0 2", (("(",), ("row", "hex", "a"), ("as", 1), (")", 0, 2))),
    ("(; hex a; ) 0 2; pen b; as 2", (("(",), ("row", "hex", "a"), (")", 0, 2), ("row", "pen", "b"), ("as", 2))),
    (ROWS, (("row", "hex", "a"),) * 12),
    (WITH_RETURNS, (("row", "hex", "a"),) * 6 + (("as", 1),) * 6),
    ("(; " + ROWS + "; ) 1 2", (("(",),) + (("row", "hex", "a"),) * 12 + ((")", 1, 2),)),
    ("; ".join(["hex a"] * 11) + "; as 11", (("row", "hex", "a"),) * 11 + (("as", 11),)),
    ("; ".join(["hex a"] * 10) + "; as 10; as 1", (("row", "hex", "a"),) * 10 + (("as", 10), ("as", 1))),
)

# Each text with the number of the part at which it is refused.
NO_FORMS = (
    # a part without signs
    ("", 0), ("; ", 0), ("; hex a", 0), ("hex a; ", 1), ("hex a; ; hex a", 1), ("hex a; hex b; ", 2), ("; ; ", 0),
    # parts that are parted otherwise
    (" ", 0), (" hex a", 0), ("hex a ", 0), ("hex a;hex b", 0), ("hex a ; hex b", 0), ("hex a;  hex b", 1),
    ("hex a; hex b;", 1), ("hex a;", 0), (";", 0), ("hex a, hex b", 0), ("hex a; hex  b", 1), ("hex\ta", 0),
    ("hex a\n", 0), ("hex a;\nhex b", 0), ("hex a; hex b\n", 1), ("hex", 0), ("hex a b", 0), ("hex a; hex", 1),
    # names that are none
    ("abcdefghi a", 0), ("Hex a", 0), ("he-x a", 0), ("h3 a", 0), (" a", 0), ("hex a; HEX a", 1), ("3 a", 0),
    ("- a", 0), ("hex a; ab.c a", 1),
    # bonds that are none
    ("hex ab", 0), ("hex 1", 0), ("hex --", 0), ("hex ", 0), ("hex _", 0), ("hex a; hex =", 1), ("hex |", 0),
    ("hex AB", 0), ("hex a-", 0), ("hex abcdefghijklmnopqrstuvwxyz", 0), ("hex ;", 0), ("hex (", 0),
    # returns to what is no earlier row
    ("as 1", 0), ("as 0", 0), ("hex a; as 0", 1), ("hex a; as 2", 1), ("hex a; as 3; hex a", 1),
    ("hex a; hex b; as 4", 2), ("hex a; as 2; hex b", 1), ("hex a; as 1; as 2", 2), ("hex a; as 1; pen b; as 2", 3),
    ("(; as 1; ) 1 2", 1), ("(; hex a; as 2; ) 1 2", 2), ("hex a; (; as 2; hex b; ) 1 1", 2),
    ("; ".join(["hex a"] * 11) + "; as 12", 11), ("hex a; as 13", 1), ("hex a; as 1" + "0" * 1900, 1),
    # returns that are not written so
    ("hex a; as 01", 1), ("hex a; as 001", 1), ("hex a; as 00", 1), ("hex a; as -1", 1), ("hex a; as +1", 1),
    ("hex a; as 1 ", 1), ("hex a; as  1", 1), ("hex a; as", 1), ("hex a; as 1 1", 1), ("hex a; As 1", 1),
    ("hex a; as 1.", 1), ("hex a; as 1; as 1_0", 2), ("hex a; as one", 1), ("hex a; as 11", 1), ("hex a; is 1", 1),
    ("hex a; as ()", 1),
    # returns behind the stanza to a row that may not be there
    ("(; hex a; ) 0 1; as 1", 3), ("(; hex a; ) 0 4; as 1; hex b", 3), ("hex a; (; hex b; as 1; ) 0 2; as 1; as 2", 6),
    ("(; hex a; hex b; ) 0 3; hex c; as 2", 5),
    # stanzas that are not written so
    ("((", 0), ("( hex a; ) 1 2", 0), ("( ", 0), (" (", 0), ("(hex a); ) 1 1", 0), ("(; hex a)", 1), ("(; hex a; )", 2),
    ("(; hex a; ) 1", 2), ("(; hex a; ) 1 2 3", 2), ("(; hex a; )1 2", 2), ("(; hex a; ) 1  2", 2),
    ("(; hex a; ) 1 2 ", 2), ("(; hex a; ) 1-2", 2), ("(; hex a; ) a b", 2), ("(; hex a; ) - -", 2),
    ("(; hex a; ) 1 -", 2), ("(; hex a; ( 1 2", 2),
    # how many times
    ("(; hex a; ) 0 0", 2), ("(; hex a; ) 1 0", 2), ("(; hex a; ) 2 1", 2), ("(; hex a; ) 4 3", 2),
    ("(; hex a; ) 1 5", 2), ("(; hex a; ) 5 5", 2), ("(; hex a; ) 0 5", 2), ("(; hex a; ) 01 2", 2),
    ("(; hex a; ) 1 02", 2), ("(; hex a; ) 00 1", 2), ("(; hex a; ) 1 10", 2), ("(; hex a; ) 12 34", 2),
    ("(; hex a; ) -1 2", 2), ("(; hex a; ) 1 " + "4" * 1900, 2), ("(; hex a; ) +1 2", 2),
    # a stanza without a row
    ("(; ) 1 2", 1), ("hex a; (; ) 1 2", 2), ("(; ) 1 2; hex a", 1), ("hex a; (; ) 0 1; hex a", 2),
    # one that ends without a beginning, or once more
    (") 1 2", 0), ("hex a; ) 1 2", 1), ("(; hex a; ) 1 2; ) 1 2", 3), ("(; hex a; ) 1 2; hex b; ) 1 2", 4),
    # more than one
    ("(; (; hex a; ) 1 2", 1), ("(; hex a; (; hex b; ) 1 2; ) 1 2", 2), ("(; hex a; ) 1 2; (; hex a; ) 1 2", 3),
    ("(; hex a; ) 1 2; hex b; (", 4), ("(; (", 1),
    # one that lacks its end
    ("(", 1), ("hex a; (", 2), ("(; hex a", 2), ("hex a; (; hex b; as 1", 4), ("(; " + ROWS, 13),
    # the thirteenth row or return
    (ROWS + "; hex a", 12), (ROWS + "; as 1", 12), (WITH_RETURNS + "; hex a", 12), (WITH_RETURNS + "; as 1", 12),
    ("(; " + ROWS + "; hex a; ) 1 2", 13), ("(; " + ROWS + "; ) 1 2; hex a", 14), ("(; " + ROWS + "; ) 1 2; as 1", 14),
    ("(; " + ROWS + "; as 1", 13), (ROWS + "; (; hex a; ) 1 2", 13), (ROWS + "; (; ) 1 1", 13), (ROWS + "; (", 13),
    ("; ".join(["hex a"] * 200), 12),
    # of several faults the first
    ("hex a; x; y", 1), ("X; (; ) 1 1", 0), ("hex a; as 2; (", 1), ("(; hex a; x", 2), ("(; hex a; ) 2 1; (", 2),
    (ROWS + "; X", 12), ("hex ab; ", 0), ("(; hex a; ", 2),
)

NAME = r"[a-z]{1,8}"
KINDS = (("row", re.compile(rf"({NAME}) ([a-zA-Z-])")), ("as", re.compile(r"as (0|[1-9][0-9]*)")),
         ("(", re.compile(r"\(")), (")", re.compile(r"\) (0|[1-9][0-9]*) (0|[1-9][0-9]*)")))


def refused_at(text):
    """The number of the part at which a text is refused, or None where it is read."""
    try:
        read_form(text)
    except NoForm as refusal:
        return refusal.at
    return None


def begins_a_form(parts):
    """Whether texts of parts are as told, whatever may follow them."""
    met = []
    for part in parts:
        found = [(kind, match.groups()) for kind, known in KINDS for match in [known.fullmatch(part)] if match]
        if not found:
            return False
        met.append(found[0])
    kinds = "".join({"row": "r", "as": "a"}.get(kind, kind) for kind, told in met)
    if not re.fullmatch(r"[ra]*(\([ra]*|\([ra]+\)[ra]*)?", kinds) or kinds.count("r") + kinds.count("a") > 12:
        return False
    low = 9
    for kind, told in met:
        if kind == ")":
            low, high = int(told[0]), int(told[1])
            if not (0 <= low <= 4 and 1 <= high <= 4 and low <= high):
                return False
    lines = [at for at, kind in enumerate(kinds) if kind in "ra"]
    for at, (kind, told) in enumerate(met):
        if kind == "as":
            named = int(told[0])
            if not 1 <= named <= len(lines) or lines[named - 1] >= at or kinds[lines[named - 1]] != "r":
                return False
            over = ")" in kinds[:at] and kinds.index("(") < lines[named - 1] < kinds.index(")")
            if over and low == 0:
                return False
    return True


def fault_in(text):
    """The number of the part at which a text must be refused, or None where it is a form."""
    parts = text.split("; ")
    for at in range(len(parts)):
        if not begins_a_form(parts[:at + 1]):
            return at
    openings = parts.count("(")
    endings = [part for part in parts if part[0] == ")"]
    return len(parts) if openings > len(endings) else None


class Read(unittest.TestCase):
    def test_by_hand(self):
        for text, form in FORMS:
            self.assertEqual(read_form(text), form)
            self.assertIs(type(read_form(text)), tuple)
            self.assertEqual([type(part) for part in read_form(text)], [tuple] * len(form))

    def test_all_bonds(self):
        for bond in "abcdefghijklmnopqrstuvwxyzABCDEFGHIJKLMNOPQRSTUVWXYZ":
            self.assertEqual(read_form("hex " + bond), (("row", "hex", bond),))

    def test_all_other_signs_are_no_bond(self):
        for number in range(ord(" "), ord("~") + 1):
            sign = chr(number)
            if not sign.isalpha() and sign not in "-%":
                self.assertEqual(refused_at("hex " + sign), 0)

    def test_all_lows_and_highs(self):
        for low in range(7):
            for high in range(7):
                text = f"(; hex a; ) {low} {high}"
                if low <= high and 1 <= high <= 4:
                    self.assertEqual(read_form(text), (("(",), ("row", "hex", "a"), (")", low, high)))
                else:
                    self.assertEqual(refused_at(text), 2)

    def test_a_return_behind_a_stanza(self):
        for low in range(5):
            text = f"hex a; (; hex b; ) {low} 4; hex c; as "
            self.assertEqual(refused_at(text + "1"), None)
            self.assertEqual(refused_at(text + "2"), 5 if low == 0 else None)
            self.assertEqual(refused_at(text + "3"), None)
            self.assertEqual(refused_at(text + "4"), 5)


class Refused(unittest.TestCase):
    def test_by_hand(self):
        for text, at in NO_FORMS:
            with self.subTest(text=text):
                self.assertEqual(refused_at(text), at)

    def test_the_refusal_s_class(self):
        with self.assertRaises(NoForm) as caught:
            read_form("hex")
        self.assertIsInstance(caught.exception, LiltError)
        self.assertIs(type(caught.exception.at), int)


class AgainstTheWords(unittest.TestCase):
    PARTS = ("hex a", "pen -", "as b", "hex B", "as 1", "as 2", "as 3", "as 5", "(", "(", ") 1 2", ") 0 1", ") 2 2",
             "as 1")
    ODD = ("", "as 0", ") 2 1", ") 0 0", "hex", "as 01", "(  ", "Hex a", "hex ab", ") 1", "as 12", "as 13")

    def test_the_oracle_by_hand(self):
        for text, form in FORMS:
            self.assertIs(fault_in(text), None)
        for text, at in NO_FORMS:
            self.assertEqual((text, fault_in(text)), (text, at))

    def test_by_chance(self):
        chance = random.Random(25)
        forms = 0
        for number in range(6000):
            parts = chance.choices(self.PARTS, k=chance.randint(1, 8))
            if chance.random() < 0.3:
                parts[chance.randrange(len(parts))] = chance.choice(self.ODD)
            if chance.random() < 0.2:
                parts = ["hex a"] * chance.randint(5, 11) + parts
            text = "; ".join(parts)
            self.assertEqual((text, refused_at(text)), (text, fault_in(text)))
            if fault_in(text) is None:
                forms = forms + 1
                self.assertEqual(written_form(read_form(text)), text)
        self.assertGreater(forms, 300)

    def test_one_sign_changed(self):
        chance = random.Random(26)
        signs = "; ()-asbhexA0123459 "
        for number in range(6000):
            text = chance.choice(FORMS)[0]
            at = chance.randrange(len(text) + 1)
            text = text[:at] + chance.choice(["", chance.choice(signs)]) + text[at + chance.randint(0, 1):]
            self.assertEqual((text, refused_at(text)), (text, fault_in(text)))


class Written(unittest.TestCase):
    def test_by_hand(self):
        for text, form in FORMS:
            self.assertEqual(written_form(form), text)
            self.assertEqual(read_form(written_form(form)), form)

    def test_its_kind(self):
        self.assertIs(type(written_form((("row", "hex", None),))), str)


class Times(unittest.TestCase):
    def test_by_hand(self):
        for text, times in (("hex a", [1]), ("hex a; as 1", [1]), ("(; hex a; ) 0 1", [0, 1]), ("(; hex a; ) 1 1", [1]),
                            ("(; hex a; ) 0 4; hex b", [0, 1, 2, 3, 4]), ("hex -; (; hex a; ) 2 4", [2, 3, 4]),
                            ("(; hex a; ) 4 4", [4]), ("hex a; (; as 1; ) 3 4; as 1", [3, 4])):
            self.assertEqual(times_of(read_form(text)), times)

    def test_a_new_list(self):
        form = read_form("(; hex a; ) 0 1")
        for times in (times_of(form), times_of(read_form("hex a"))):
            times.append("x")
        self.assertEqual(times_of(form), [0, 1])
        self.assertEqual(times_of(read_form("hex a")), [1])
        self.assertIs(type(times_of(form)), list)


if __name__ == "__main__":
    unittest.main()
