"""A reading told foot by foot [18]."""

import copy
import random
import unittest

from lilt.metres import read_metre
from lilt.readings import foot_by_foot, many_readings, reading_at
from lilt.tables import table_of
from lilt.tongues import Tongue
from plain import LONG, SHORT, SPLIT, readings_in, said_in, some_metre, some_table


class FootByFoot(unittest.TestCase):
    def test_one_foot(self):
        self.assertEqual(foot_by_foot([[[SHORT]]], read_metre("u"), ([SHORT], [0])), [("u", [(0, 0, "u")])])

    def test_the_pattern_s_text_and_the_mark_that_is_said(self):
        table = [[[SHORT, LONG]], [[SHORT, LONG]]]
        told = foot_by_foot(table, read_metre("-/xx"), ([SHORT, LONG], [1]))
        self.assertEqual(told, [("xx", [(0, 0, "u"), (1, 0, "-")])])

    def test_words_and_syllables_by_their_numbers(self):
        table = [[[LONG], [SHORT], [SHORT]], [[LONG]], [[LONG], [SHORT]]]
        reading = ([LONG, SHORT, SHORT, LONG, LONG, SHORT], [0, 1, 0])
        self.assertEqual(foot_by_foot(table, read_metre("-uu -uu/-- x"), reading), [
            ("-uu", [(0, 0, "-"), (0, 1, "u"), (0, 2, "u")]),
            ("--", [(1, 0, "-"), (2, 0, "-")]),
            ("x", [(2, 1, "u")]),
        ])

    def test_a_foot_may_end_within_a_word(self):
        table = [[[SHORT], [LONG], [SHORT]]]
        self.assertEqual(foot_by_foot(table, read_metre("u -u"), ([SHORT, LONG, SHORT], [0, 0])),
                         [("u", [(0, 0, "u")]), ("-u", [(0, 1, "-"), (0, 2, "u")])])

    def test_split_is_long(self):
        self.assertEqual(foot_by_foot([[[SHORT, SPLIT], [SHORT]]], read_metre("-u"), ([SPLIT, SHORT], [0])),
                         [("-u", [(0, 0, "-"), (0, 1, "u")])])

    def test_a_syllable_that_is_not_said_is_left_out(self):
        table = [[[SHORT], [SHORT, None]], [[None]], [[LONG]]]
        metre = read_metre("u/uu -")
        self.assertEqual(foot_by_foot(table, metre, ([SHORT, None, None, LONG], [0, 0])),
                         [("u", [(0, 0, "u")]), ("-", [(2, 0, "-")])])
        self.assertEqual(foot_by_foot(table, metre, ([SHORT, SHORT, None, LONG], [1, 0])),
                         [("uu", [(0, 0, "u"), (0, 1, "u")]), ("-", [(2, 0, "-")])])

    def test_a_row_of_an_old_poem(self):
        tongue = Tongue(["carry a e i o u", "one ae", "long ae", "either a e i o u", "begin tr pr", "split tr pr"])
        table = table_of(tongue, ["arma", "virumqe", "cano", "trojae", "qi", "primus", "ab", "oris"])
        metre = read_metre("-uu/-- -uu/-- - | uu/- -uu/-- -uu -x")
        self.assertEqual(foot_by_foot(table, metre, reading_at(table, metre, 0)), [
            ("-uu", [(0, 0, "-"), (0, 1, "u"), (1, 0, "u")]),
            ("-uu", [(1, 1, "-"), (1, 2, "u"), (2, 0, "u")]),
            ("-", [(2, 1, "-")]),
            ("-", [(3, 0, "-")]),
            ("--", [(3, 1, "-"), (4, 0, "-")]),
            ("-uu", [(5, 0, "-"), (5, 1, "u"), (6, 0, "u")]),
            ("-x", [(7, 0, "-"), (7, 1, "-")]),
        ])

    def test_against_the_words_of_the_document(self):
        chance = random.Random(18)
        for number in range(200):
            table = some_table(chance)
            metre = some_metre(chance)
            for saying, feet in readings_in(table, metre):
                told = foot_by_foot(table, metre, (saying, feet))
                self.assertEqual([pattern for pattern, places in told], [slot[0][at] for slot, at in zip(metre, feet)])
                self.assertEqual([len(pattern) for pattern, places in told], [len(places) for pattern, places in told])
                places = [place for pattern, places in told for place in places]
                self.assertEqual(places, sorted(places))
                self.assertEqual([(mark, syllable == len(table[word]) - 1) for word, syllable, mark in places],
                                 said_in(table, saying))


class Own(unittest.TestCase):
    def test_what_was_handed_in_stays_as_it_was(self):
        table = [[[SHORT], [SHORT, None]], [[LONG]]]
        metre = read_metre("u/uu -")
        reading = ([SHORT, None, LONG], [0, 0])
        before = copy.deepcopy((table, reading))
        foot_by_foot(table, metre, reading)
        self.assertEqual((table, reading), before)

    def test_every_list_is_a_new_one(self):
        table = [[[SHORT], [SHORT, None]], [[LONG]]]
        metre = read_metre("u/uu -")
        self.assertEqual(many_readings(table, metre), 2)
        reading = reading_at(table, metre, 0)
        expected = [("uu", [(0, 0, "u"), (0, 1, "u")]), ("-", [(1, 0, "-")])]
        first = foot_by_foot(table, metre, reading)
        self.assertEqual(first, expected)
        for pattern, places in first:
            places.append("x")
        first.append("y")
        self.assertEqual(foot_by_foot(table, metre, reading), expected)

    def test_kinds(self):
        told = foot_by_foot([[[SHORT]]], read_metre("x"), ([SHORT], [0]))
        self.assertIs(type(told), list)
        self.assertIs(type(told[0]), tuple)
        self.assertEqual([type(thing) for thing in told[0]], [str, list])
        self.assertEqual([type(thing) for thing in told[0][1][0]], [int, int, str])


if __name__ == "__main__":
    unittest.main()
