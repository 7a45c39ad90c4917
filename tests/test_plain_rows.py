"""The plain rows of a form [26]: its metres, bonds and returns, the stanza one time behind the other."""

import random
import unittest

from lilt.forms import plain_rows, read_form, times_of
from plain import some_form


def rows_of(text, times):
    return plain_rows(read_form(text), times)


class WithoutStanza(unittest.TestCase):
    def test_rows(self):
        self.assertEqual(rows_of("hex a", 1), [("hex", ("a", 0), None)])
        self.assertEqual(rows_of("hex -", 1), [("hex", None, None)])
        self.assertEqual(rows_of("hex A; pen a; as b", 1),
                         [("hex", ("A", 0), None), ("pen", ("a", 0), None), ("as", ("b", 0), None)])

    def test_returns(self):
        self.assertEqual(rows_of("hex a; pen b; as 1; as 2; as 1", 1),
                         [("hex", ("a", 0), None), ("pen", ("b", 0), None), ("hex", None, 0), ("pen", None, 1),
                          ("hex", None, 0)])

    def test_a_return_counts_as_one(self):
        self.assertEqual(rows_of("hex a; as 1; pen -; as 3", 1),
                         [("hex", ("a", 0), None), ("hex", None, 0), ("pen", None, None), ("pen", None, 2)])

    def test_twelve(self):
        text = "; ".join(["m" + letter + " " + letter for letter in "abcdefghijk"]) + "; as 11"
        plain = [("m" + letter, (letter, 0), None) for letter in "abcdefghijk"]
        self.assertEqual(rows_of(text, 1), plain + [("mk", None, 10)])


class WithStanza(unittest.TestCase):
    def test_small_and_great_letters(self):
        self.assertEqual(rows_of("(; hex a; pen B; old -; ) 1 3", 2), [
            ("hex", ("a", 1), None), ("pen", ("B", 0), None), ("old", None, None),
            ("hex", ("a", 2), None), ("pen", ("B", 0), None), ("old", None, None),
        ])

    def test_inside_and_outside(self):
        self.assertEqual(rows_of("hex a; pen B; (; hex a; pen B; ) 1 3; hex a; pen B", 2), [
            ("hex", ("a", 0), None), ("pen", ("B", 0), None),
            ("hex", ("a", 1), None), ("pen", ("B", 0), None),
            ("hex", ("a", 2), None), ("pen", ("B", 0), None),
            ("hex", ("a", 0), None), ("pen", ("B", 0), None),
        ])

    def test_one_time(self):
        self.assertEqual(rows_of("(; hex a; ) 1 3", 1), [("hex", ("a", 1), None)])

    def test_no_times(self):
        self.assertEqual(rows_of("(; hex a; pen B; as 1; ) 0 3", 0), [])
        self.assertEqual(rows_of("hex a; (; pen B; as 1; ) 0 3; old c; as 1; as 4", 0),
                         [("hex", ("a", 0), None), ("old", ("c", 0), None), ("hex", None, 0), ("old", None, 1)])

    def test_four_times(self):
        self.assertEqual(rows_of("(; hex a; ) 0 4", 4), [("hex", ("a", turn), None) for turn in (1, 2, 3, 4)])

    def test_a_return_in_the_stanza_to_its_own_time(self):
        self.assertEqual(rows_of("(; hex a; pen -; as 1; ) 0 3", 3), [
            ("hex", ("a", 1), None), ("pen", None, None), ("hex", None, 0),
            ("hex", ("a", 2), None), ("pen", None, None), ("hex", None, 3),
            ("hex", ("a", 3), None), ("pen", None, None), ("hex", None, 6),
        ])

    def test_a_return_in_the_stanza_to_a_row_ahead(self):
        self.assertEqual(rows_of("hex A; (; pen b; as 1; ) 1 2", 2), [
            ("hex", ("A", 0), None),
            ("pen", ("b", 1), None), ("hex", None, 0),
            ("pen", ("b", 2), None), ("hex", None, 0),
        ])

    def test_a_return_behind_the_stanza_to_its_last_time(self):
        text = "old -; (; hex a; pen b; ) 1 4; as 2; as 3; as 1"
        for times in (1, 2, 3, 4):
            plain = rows_of(text, times)
            last = 1 + 2 * (times - 1)
            self.assertEqual(plain[-3:], [("hex", None, last), ("pen", None, last + 1), ("old", None, 0)])
            self.assertEqual(len(plain), 1 + 2 * times + 3)

    def test_a_return_behind_the_stanza_to_a_row_behind_it(self):
        self.assertEqual(rows_of("(; hex a; ) 0 2; pen b; as 2", 2),
                         [("hex", ("a", 1), None), ("hex", ("a", 2), None), ("pen", ("b", 0), None), ("pen", None, 2)])

    def test_a_stanza_of_returns_alone(self):
        self.assertEqual(rows_of("hex a; (; as 1; ) 0 3", 3),
                         [("hex", ("a", 0), None), ("hex", None, 0), ("hex", None, 0), ("hex", None, 0)])

    def test_all_letters(self):
        for letter in "abcdefghijklmnopqrstuvwxyz":
            self.assertEqual(rows_of(f"(; hex {letter}; ) 1 2", 2)[1][1], (letter, 2))
            great = letter.upper()
            self.assertEqual(rows_of(f"(; hex {great}; ) 1 2", 2)[1][1], (great, 0))


def plainly(parts, times):
    """The plain rows by the text's parts, each return looked up among all plain rows ahead of it."""
    inside = range(parts.index("(") + 1, [part[0] for part in parts].index(")")) if "(" in parts else range(0)
    lines = [at for at, part in enumerate(parts) if part[0] not in "()"]
    come = [(at, 0) for at in lines if not inside or at < inside[0]]
    come.extend((at, turn) for turn in range(1, times + 1) for at in lines if at in inside)
    come.extend((at, 0) for at in lines if inside and at > inside[-1])
    plain = []
    for at, turn in come:
        name, told = parts[at].split(" ")
        if told.isdigit():
            named = lines[int(told) - 1]
            # In the stanza it is its own time's, else the last; so it is always the last one that has come.
            back = max(number for number, (other, when) in enumerate(come[:len(plain)]) if other == named)
            plain.append((parts[named].split(" ")[0], None, back))
        elif told == "-":
            plain.append((name, None, None))
        else:
            plain.append((name, (told, turn if told in "abcdefghijklmnopqrstuvwxyz" else 0), None))
    return plain


class AgainstTheWords(unittest.TestCase):
    PARTS = ("hex a", "pen -", "as b", "hex B", "pen a", "as 1", "as 2", "as 3", "as 4")

    def test_by_chance(self):
        chance = random.Random(27)
        for number in range(1000):
            parts = some_form(chance, self.PARTS, 8)
            form = read_form("; ".join(parts))
            for times in times_of(form):
                self.assertEqual(plain_rows(form, times), plainly(parts, times))


class Own(unittest.TestCase):
    def test_a_new_list(self):
        form = read_form("hex a; as 1")
        plain_rows(form, 1).append("x")
        self.assertEqual(plain_rows(form, 1), [("hex", ("a", 0), None), ("hex", None, 0)])

    def test_kinds(self):
        plain = rows_of("(; hex a; as 1; pen -; ) 1 1", 1)
        self.assertIs(type(plain), list)
        self.assertEqual([type(row) for row in plain], [tuple] * 3)
        self.assertEqual([[type(part) for part in row] for row in plain[:2]],
                         [[str, tuple, type(None)], [str, type(None), int]])


if __name__ == "__main__":
    unittest.main()
