"""Feet of a said row in a metre [16]: counted, by their numbers, and their numbers again."""

import copy
import math
import random
import unittest

from lilt.feet import feet_at, many_feet, number_of_feet
from lilt.metres import read_metre
from plain import feet_in, said_rows, some_metre


def row_of(text):
    """A said row told by its marks, a blank behind each word."""
    return [(mark, at == len(word) - 1) for word in text.split() for at, mark in enumerate(word)]


def all_feet(metre, row):
    return [feet_at(metre, row, number) for number in range(many_feet(metre, row))]


class ByHand(unittest.TestCase):
    def test_one_slot(self):
        metre = read_metre("-uu/--")
        self.assertEqual(all_feet(metre, row_of("-uu")), [[0]])
        self.assertEqual(all_feet(metre, row_of("--")), [[1]])
        for text in ("-", "u", "uu", "-u", "u-", "-u-", "--u", "---", "-uuu", "uuu"):
            self.assertEqual(many_feet(metre, row_of(text)), 0)

    def test_of_the_empty_row_there_are_none(self):
        for text in ("u", "x |", "x/xx x | -", " ".join(["x/xx"] * 12)):
            self.assertEqual(many_feet(read_metre(text), []), 0)

    def test_each_mark_the_same_or_x(self):
        self.assertEqual(all_feet(read_metre("u/-/x"), row_of("u")), [[0], [2]])
        self.assertEqual(all_feet(read_metre("u/-/x"), row_of("-")), [[1], [2]])
        self.assertEqual(all_feet(read_metre("x/u/-"), row_of("-")), [[0], [2]])

    def test_the_less_first(self):
        metre = read_metre("x/xx x/xx x/xx")
        self.assertEqual(all_feet(metre, row_of("u-u")), [[0, 0, 0]])
        self.assertEqual(all_feet(metre, row_of("u-u-")), [[0, 0, 1], [0, 1, 0], [1, 0, 0]])
        self.assertEqual(all_feet(metre, row_of("u-u-u")), [[0, 1, 1], [1, 0, 1], [1, 1, 0]])
        self.assertEqual(all_feet(metre, row_of("u-u-u-")), [[1, 1, 1]])
        self.assertEqual(many_feet(metre, row_of("u-")), 0)
        self.assertEqual(many_feet(metre, row_of("u-u-u-u")), 0)

    def test_by_the_number_and_not_by_the_length(self):
        metre = read_metre("xx/x x/xx")
        self.assertEqual(all_feet(metre, row_of("---")), [[0, 0], [1, 1]])

    def test_several_patterns_of_one_length(self):
        metre = read_metre("x/u x/u")
        self.assertEqual(all_feet(metre, row_of("uu")), [[0, 0], [0, 1], [1, 0], [1, 1]])
        self.assertEqual(all_feet(metre, row_of("-u")), [[0, 0], [0, 1]])
        self.assertEqual(all_feet(metre, row_of("u-")), [[0, 0], [1, 0]])
        self.assertEqual(all_feet(metre, row_of("--")), [[0, 0]])

    def test_numbers_again(self):
        metre = read_metre("x/xx x/xx x/xx")
        row = row_of("u-u-")
        self.assertEqual([number_of_feet(metre, row, feet) for feet in ([0, 0, 1], [0, 1, 0], [1, 0, 0])], [0, 1, 2])

    def test_a_row_of_an_old_poem(self):
        metre = read_metre("-uu/-- -uu/-- - | uu/- -uu/-- -uu -x")
        row = row_of("-u u-u u- -- - -u u --")
        self.assertEqual(all_feet(metre, row), [[0, 0, 0, 1, 1, 0, 0]])
        self.assertEqual(number_of_feet(metre, row, [0, 0, 0, 1, 1, 0, 0]), 0)


class Cuts(unittest.TestCase):
    def test_a_word_must_end_behind_a_slot_with_a_cut(self):
        metre = read_metre("x/xx | x/xx")
        self.assertEqual(all_feet(metre, row_of("u uu")), [[0, 1]])
        self.assertEqual(all_feet(metre, row_of("uu u")), [[1, 0]])
        self.assertEqual(all_feet(metre, row_of("u u u")), [[0, 1], [1, 0]])
        self.assertEqual(all_feet(metre, row_of("uuu")), [])

    def test_at_the_row_s_end(self):
        metre = read_metre("x x |")
        self.assertEqual(all_feet(metre, [("u", False), ("u", True)]), [[0, 0]])
        self.assertEqual(all_feet(metre, [("u", True), ("u", False)]), [])

    def test_a_word_may_end_elsewhere(self):
        self.assertEqual(all_feet(read_metre("uu/u- | x"), row_of("u u u")), [[0, 0]])
        self.assertEqual(all_feet(read_metre("uu - |"), row_of("u u -")), [[0, 0]])

    def test_without_a_cut_none_is_asked(self):
        self.assertEqual(all_feet(read_metre("uu -"), [("u", False), ("u", False), ("-", False)]), [[0, 0]])


class AgainstAll(unittest.TestCase):
    def test_one_by_one(self):
        chance = random.Random(16)
        rows = said_rows(6)
        met = 0
        for number in range(120):
            metre = some_metre(chance)
            for row in chance.sample(rows, 25):
                feet = feet_in(metre, row)
                met = met + len(feet)
                self.assertEqual(all_feet(metre, row), feet)
                self.assertEqual([number_of_feet(metre, row, each) for each in feet], list(range(len(feet))))
        self.assertGreater(met, 100)

    def test_large(self):
        metre = read_metre(" ".join(["x/xx"] * 12))
        for many in range(27):
            self.assertEqual(many_feet(metre, row_of("u" * many)), math.comb(12, many - 12) if many >= 12 else 0)
        metre = read_metre(" ".join(["xxxx/x/xxx/xx"] * 12))
        row = row_of("u-- " * 10)
        # The middle coefficient of (1 + t + t^2 + t^3)^12, at t^18.
        many = sum((-1) ** k * math.comb(12, k) * math.comb(29 - 4 * k, 11) for k in range(5))
        self.assertEqual(many_feet(metre, row), many)
        # Of the lengths 4, 1, 3, 2: six fours leave one mark a slot, nine twos leave four marks a slot.
        self.assertEqual(feet_at(metre, row, 0), [0] * 6 + [1] * 6)
        self.assertEqual(feet_at(metre, row, many - 1), [3] * 9 + [0] * 3)
        for number in (0, 1, 2, many // 7, many // 2, many - 2, many - 1):
            self.assertEqual(number_of_feet(metre, row, feet_at(metre, row, number)), number)

    def test_sixty_marks(self):
        metre = read_metre(" ".join(["x/xx/xxx/xxxx"] * 12))
        self.assertEqual(many_feet(metre, row_of("u" * 48)), 1)
        self.assertEqual(feet_at(metre, row_of("u" * 48), 0), [3] * 12)
        self.assertEqual(many_feet(metre, row_of("u" * 60)), 0)


class Own(unittest.TestCase):
    def test_what_was_handed_in_stays_as_it_was(self):
        metre = read_metre("x/xx | x/xx")
        row = row_of("u u u")
        before = copy.deepcopy(row)
        feet = [1, 0]
        self.assertEqual(many_feet(metre, row), 2)
        self.assertEqual(feet_at(metre, row, 1), feet)
        self.assertEqual(number_of_feet(metre, row, feet), 1)
        self.assertEqual(row, before)
        self.assertEqual(feet, [1, 0])

    def test_each_list_is_a_new_one(self):
        metre = read_metre("x/xx | x/xx")
        feet_at(metre, row_of("u u u"), 0).append("x")
        self.assertEqual(feet_at(metre, row_of("u u u"), 0), [0, 1])

    def test_kinds(self):
        metre = read_metre("x/xx | x/xx")
        row = row_of("u u u")
        self.assertIs(type(many_feet(metre, row)), int)
        self.assertIs(type(many_feet(metre, [])), int)
        self.assertIs(type(number_of_feet(metre, row, [0, 1])), int)
        self.assertEqual([type(number) for number in feet_at(metre, row, 1)], [int, int])


if __name__ == "__main__":
    unittest.main()
