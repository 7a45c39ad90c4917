"""Readings [17]: let by, counted, by their numbers and back; and the promise over all of them [3]."""

import copy
import itertools
import random
import unittest

from lilt.errors import LiltError, NoReading
from lilt.metres import read_metre
from lilt.readings import lets_by, many_readings, number_of, reading_at
from lilt.tables import shown_as, table_of
from lilt.tongues import Tongue
from plain import LONG, SHORT, SPLIT, readings_in, some_metre, some_table

# A table of which each word may lose its end, and a metre in which it has several readings.
UNSAID = [[[SHORT], [SHORT, None]], [[LONG]]]
BY_UNSAID = read_metre("u/uu -")


def all_readings(table, metre):
    return [reading_at(table, metre, number) for number in range(many_readings(table, metre))]


class ByHand(unittest.TestCase):
    def hold(self, table, text, readings):
        """Hold a table in a metre against all its readings, told in their order."""
        metre = read_metre(text)
        self.assertEqual(many_readings(table, metre), len(readings))
        self.assertEqual(all_readings(table, metre), readings)
        for number, reading in enumerate(readings):
            self.assertEqual(number_of(table, metre, reading), number)
            self.assertIs(lets_by(table, metre, reading), True)
        for number in (-1, -2, -10 ** 59, len(readings), len(readings) + 1, 10 ** 59):
            self.assertRaises(NoReading, reading_at, table, metre, number)

    def test_one_syllable(self):
        self.hold([[[SHORT]]], "u", [([SHORT], [0])])
        self.hold([[[SHORT]]], "-", [])
        self.hold([[[SHORT, LONG]]], "-", [([LONG], [0])])
        self.hold([[[SHORT, LONG]]], "x", [([SHORT], [0]), ([LONG], [0])])
        self.hold([[[LONG, SHORT]]], "x", [([LONG], [0]), ([SHORT], [0])])

    def test_by_sayings_and_then_by_feet(self):
        self.hold([[[SHORT, LONG]], [[SHORT, LONG]]], "x/- x", [
            ([SHORT, SHORT], [0, 0]),
            ([SHORT, LONG], [0, 0]),
            ([LONG, SHORT], [0, 0]),
            ([LONG, SHORT], [1, 0]),
            ([LONG, LONG], [0, 0]),
            ([LONG, LONG], [1, 0]),
        ])

    def test_the_saying_goes_ahead_of_feet_that_are_less(self):
        self.hold([[[SHORT, LONG]]], "-/u", [([SHORT], [1]), ([LONG], [0])])

    def test_long_and_split_are_two_readings(self):
        self.hold([[[SHORT, LONG, SPLIT], [SHORT]]], "-u", [([LONG, SHORT], [0]), ([SPLIT, SHORT], [0])])
        self.hold([[[SPLIT, SHORT, LONG], [SHORT]]], "-u", [([SPLIT, SHORT], [0]), ([LONG, SHORT], [0])])

    def test_a_syllable_that_is_not_said(self):
        self.hold(UNSAID, "u/uu -", [([SHORT, SHORT, LONG], [1, 0]), ([SHORT, None, LONG], [0, 0])])
        self.hold([[[SHORT], [None, SHORT]], [[LONG]]], "u/uu -",
                  [([SHORT, None, LONG], [0, 0]), ([SHORT, SHORT, LONG], [1, 0])])
        self.hold([[[None]], [[None, SHORT]]], "x", [([None, SHORT], [0])])

    def test_a_cut_at_a_word_s_end(self):
        self.hold(UNSAID, "u/uu | -", [([SHORT, SHORT, LONG], [1, 0])])
        self.hold(UNSAID, "u/uu - |", [([SHORT, SHORT, LONG], [1, 0]), ([SHORT, None, LONG], [0, 0])])
        self.hold([[[SHORT], [None]], [[LONG]]], "u | -", [])
        self.hold([[[SHORT], [None]], [[LONG]]], "u -", [([SHORT, None, LONG], [0, 0])])
        self.hold([[[SHORT], [None]]], "u |", [])

    def test_an_empty_table(self):
        for text in ("u", "x |", "x/xx x"):
            self.hold([], text, [])

    def test_where_nothing_is_said(self):
        self.hold([[[None]]], "x", [])
        self.hold([[[None]], [[None]]], "x/xx", [])

    def test_too_many_and_too_few(self):
        self.hold([[[SHORT]] * 3], "u u", [])
        self.hold([[[SHORT]]], "u u", [])
        self.hold([[[SHORT]] * 3], "u/uu u/uu", [([SHORT] * 3, [0, 1]), ([SHORT] * 3, [1, 0])])


class LetsBy(unittest.TestCase):
    def none(self, table, metre, reading):
        self.assertIs(lets_by(table, metre, reading), False)
        self.assertRaises(NoReading, number_of, table, metre, reading)

    def test_sayings_that_are_none(self):
        for saying in ([], [SHORT], [SHORT, SHORT], [SHORT, None], [SHORT, SHORT, LONG, LONG],
                       [SHORT, SHORT, LONG, None], [SHORT, SHORT, SPLIT], [SHORT, SHORT, SHORT],
                       [SHORT, SHORT, None], [None, SHORT, LONG], [LONG, SHORT, LONG], [SHORT, LONG], [SHORT] * 400):
            for feet in ([0, 0], [1, 0]):
                self.none(UNSAID, BY_UNSAID, (saying, feet))

    def test_feet_that_are_none(self):
        saying = [SHORT, SHORT, LONG]
        self.assertIs(lets_by(UNSAID, BY_UNSAID, (saying, [1, 0])), True)
        for feet in ([], [1], [0], [0, 0], [1, 1], [2, 0], [-1, 0], [1, -1], [-1, -1], [1, 0, 0], [1, 0, -1],
                     [0, 1, 0], [10 ** 59, 0], [1, -10 ** 59], [1, 0] * 200):
            self.none(UNSAID, BY_UNSAID, (saying, feet))

    def test_feet_of_another_saying(self):
        self.none(UNSAID, BY_UNSAID, ([SHORT, None, LONG], [1, 0]))
        self.none(UNSAID, BY_UNSAID, ([SHORT, SHORT, LONG], [0, 0]))

    def test_a_cut_where_no_word_ends(self):
        metre = read_metre("u/uu | -")
        self.none(UNSAID, metre, ([SHORT, None, LONG], [0, 0]))
        self.assertIs(lets_by(UNSAID, metre, ([SHORT, SHORT, LONG], [1, 0])), True)

    def test_feet_that_leave_some_of_the_row(self):
        self.none([[[SHORT], [SHORT]]], read_metre("u/uu"), ([SHORT, SHORT], [0]))
        self.none([[[SHORT]]], read_metre("u/uu"), ([SHORT], [1]))

    def test_an_empty_table(self):
        for reading in (([], []), ([], [0]), ([SHORT], [0]), ([None], []), ([None], [0])):
            self.none([], read_metre("u"), reading)

    def test_just_the_readings_of_all_that_may_be_asked(self):
        options = (SHORT, LONG, SPLIT, None)
        sayings = [list(saying) for many in range(4) for saying in itertools.product(options, repeat=many)]
        lists = [list(feet) for many in range(4) for feet in itertools.product((-1, 0, 1, 2), repeat=many)]
        for table, text in (
            ([[[SHORT, LONG], [SHORT, None]]], "x/u u/-u"),
            ([[[SPLIT, SHORT]], [[LONG, None]]], "-/x"),
            ([[[LONG, SHORT]], [[SHORT, LONG], [None, SPLIT]]], "x/-u | x/xx"),
        ):
            metre = read_metre(text)
            asked = itertools.product(sayings, lists)
            let = [reading for reading in asked if lets_by(table, metre, reading)]
            told = all_readings(table, metre)
            self.assertGreater(len(told), 1)
            self.assertCountEqual(let, told)


class AgainstAll(unittest.TestCase):
    def test_one_by_one(self):
        chance = random.Random(17)
        met = 0
        for number in range(400):
            table = some_table(chance)
            metre = some_metre(chance)
            readings = readings_in(table, metre)
            met = met + len(readings)
            self.assertEqual(many_readings(table, metre), len(readings))
            self.assertEqual(all_readings(table, metre), readings)
            for at, reading in enumerate(readings):
                self.assertEqual(number_of(table, metre, reading), at)
                self.assertIs(lets_by(table, metre, reading), True)
            self.assertRaises(NoReading, reading_at, table, metre, len(readings))
            self.assertRaises(NoReading, reading_at, table, metre, -1)
        self.assertGreater(met, 400)

    def test_sixty_syllables_that_may_be_any(self):
        # Of each word five or, without its end, four: all that is said are forty-eight marks at most.
        table = [[[SHORT, LONG, SPLIT]] * 4 + [[SHORT, LONG, SPLIT, None]]] * 12
        metre = read_metre(" ".join(["x/xx/xxx/xxxx"] * 12))
        many = 3 ** 48
        self.assertEqual(many_readings(table, metre), many)
        self.assertEqual(reading_at(table, metre, 0), (([SHORT] * 4 + [None]) * 12, [3] * 12))
        self.assertEqual(reading_at(table, metre, many - 1), (([SPLIT] * 4 + [None]) * 12, [3] * 12))
        for number in (1, many // 2, many // 3 - 1, many - 2):
            reading = reading_at(table, metre, number)
            self.assertIs(lets_by(table, metre, reading), True)
            self.assertEqual(number_of(table, metre, reading), number)
        self.assertRaises(NoReading, reading_at, table, metre, many)

    def test_many_of_one_saying(self):
        table = [[[LONG]] * 3] * 6
        metre = read_metre(" ".join(["x/xx"] * 12))
        # Six of the twelve slots take two marks.
        self.assertEqual(many_readings(table, metre), 924)
        self.assertEqual(reading_at(table, metre, 0), ([LONG] * 18, [0] * 6 + [1] * 6))
        self.assertEqual(reading_at(table, metre, 923), ([LONG] * 18, [1] * 6 + [0] * 6))
        self.assertEqual(number_of(table, metre, ([LONG] * 18, [1] * 6 + [0] * 6)), 923)


class OfWords(unittest.TestCase):
    ROWS = ["carry a e i o u", "one ae", "long ae", "either a e i o u", "begin tr pr", "split tr pr"]

    def test_a_row_of_an_old_poem(self):
        tongue = Tongue(self.ROWS)
        words = ["arma", "virumqe", "cano", "trojae", "qi", "primus", "ab", "oris"]
        table = table_of(tongue, words)
        metre = read_metre("-uu/-- -uu/-- - | uu/- -uu/-- -uu -x")
        self.assertEqual(many_readings(table, metre), 1)
        reading = reading_at(table, metre, 0)
        self.assertEqual(shown_as(tongue, words, reading[0]),
                         "ar-.mau viu.rum-.qeu cau.no- tro-.jae- qi- pri-.musu abu o-.ris-")
        self.assertEqual(reading[1], [0, 0, 0, 1, 1, 0, 0])

    def test_the_document_s_two_words(self):
        tongue = Tongue(["carry a e i", "either e i", "begin tr", "split tr", "run may"])
        words = ["patre", "ira"]
        table = table_of(tongue, words)
        metre = read_metre("u/-x | -u/u-u")
        shown = []
        for saying, feet in all_readings(table, metre):
            shown.append((shown_as(tongue, words, saying), feet))
        self.assertEqual(shown, [("pat-.reu i-.rau", [1, 0]), ("pat-.re- i-.rau", [1, 0])])
        metre = read_metre("u/-x -u/u-u/uu")
        shown = [(shown_as(tongue, words, saying), feet) for saying, feet in all_readings(table, metre)]
        self.assertEqual(shown, [
            ("pau.treu i-.rau", [0, 1]),
            ("pau.(tre) iu.rau", [0, 2]),
            ("pau.(tre) i-.rau", [0, 0]),
            ("pat-.reu iu.rau", [1, 2]),
            ("pat-.reu i-.rau", [1, 0]),
            ("pat-.re- iu.rau", [1, 2]),
            ("pat-.re- i-.rau", [1, 0]),
        ])

    def test_no_words(self):
        self.assertEqual(many_readings(table_of(Tongue(self.ROWS), []), read_metre("x")), 0)


class Own(unittest.TestCase):
    def test_what_was_handed_in_stays_as_it_was(self):
        table = copy.deepcopy(UNSAID)
        reading = ([SHORT, None, LONG], [0, 0])
        wrong = ([SHORT, None], [0, -1, 7])
        many_readings(table, BY_UNSAID)
        reading_at(table, BY_UNSAID, 1)
        number_of(table, BY_UNSAID, reading)
        lets_by(table, BY_UNSAID, reading)
        lets_by(table, BY_UNSAID, wrong)
        self.assertRaises(NoReading, number_of, table, BY_UNSAID, wrong)
        self.assertRaises(NoReading, reading_at, table, BY_UNSAID, 2)
        self.assertEqual(table, UNSAID)
        self.assertEqual(reading, ([SHORT, None, LONG], [0, 0]))
        self.assertEqual(wrong, ([SHORT, None], [0, -1, 7]))

    def test_every_list_is_a_new_one(self):
        for part in reading_at(UNSAID, BY_UNSAID, 0):
            part.append("x")
        self.assertEqual(reading_at(UNSAID, BY_UNSAID, 0), ([SHORT, SHORT, LONG], [1, 0]))
        self.assertEqual(UNSAID, [[[SHORT], [SHORT, None]], [[LONG]]])

    def test_kinds(self):
        reading = reading_at(UNSAID, BY_UNSAID, 1)
        self.assertIs(type(reading), tuple)
        self.assertEqual([type(part) for part in reading], [list, list])
        self.assertIs(type(many_readings(UNSAID, BY_UNSAID)), int)
        self.assertIs(type(many_readings([], BY_UNSAID)), int)
        self.assertIs(type(number_of(UNSAID, BY_UNSAID, reading)), int)

    def test_the_refusal_s_class(self):
        with self.assertRaises(NoReading) as caught:
            reading_at(UNSAID, BY_UNSAID, 2)
        self.assertIsInstance(caught.exception, LiltError)


if __name__ == "__main__":
    unittest.main()
