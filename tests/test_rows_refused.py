"""Tongues [5]: rows that are none, and the number that NoRule tells of the first of them."""

import itertools
import unittest

from lilt.errors import NoRule
from lilt.tongues import Tongue

# With these, a e i o u carry, ae and oe are pairs, and all other letters are stops.
GOOD = ["carry a e i o u", "one ae oe"]

NO_ROWS = (
    # no kind of row, or its word not just as told
    "", " ", "  ", "a", "tell a", "carries a", "Carry a", "CARRY a", "carry.", "carrya", "carry,a", "#carry a",
    "stop t", "short a", "longs a", "rune may", "ones ae", "beginning tr", "splits tr", "like a e",
    # carry
    "carry", "carry ", "carry  a", " carry a", "carry a ", "carry a  e", "carry A", "carry a E", "carry ae",
    "carry 1", "carry a -", "carry a.", "carry a,e", "carry a\n", "carry\ta", "carry a\te", "carry a\ne", "carry \n",
    # one
    "one", "one ", "one  ae", " one ae", "one ae ", "one ae  oe", "one a", "one aei", "one a e", "one AE", "one aE",
    "one at", "one ta", "one tr", "one ae at", "one a-", "one ae,oe", "one ae\n", "One ae",
    # long, either
    "long", "long ", "long  a", " long a", "long a ", "long a  e", "long t", "long a t", "long A", "long ea", "long aee",
    "long au", "long tr", "long 1", "long a.", "long a\n", "Long a", "long aeoe",
    "either", "either ", "either  a", " either a", "either a ", "either t", "either a t", "either A", "either ea",
    "either au", "either tr", "either a-", "either a\n", "Either a",
    # begin, split
    "begin", "begin ", "begin  tr", " begin tr", "begin tr ", "begin tr  st", "begin t", "begin t r", "begin strst",
    "begin tr strst", "begin ta", "begin at", "begin tar", "begin ae", "begin a", "begin TR", "begin tR", "begin t-",
    "begin tr st e", "begin tr,st", "begin tr\n", "Begin tr",
    "split", "split ", "split  tr", " split tr", "split tr ", "split tr  st", "split t", "split t r", "split strst",
    "split tr strst", "split ta", "split at", "split tar", "split ae", "split a", "split TR", "split tR", "split t-",
    "split tr st e", "split tr,st", "split tr\n", "Split tr",
    # run
    "run", "run ", "run  may", " run may", "run may ", "run always", "run May", "run MAY", "run may must", "run may may",
    "run m", "run nevermay", "run never,may", "run may\n", "run may\tmust", "Run may", "run a",
    # alike
    "alike", "alike ", "alike a", "alike t", "alike a e i", "alike t d s", "alike  a e", " alike a e", "alike a e ",
    "alike a  e", "alike a t", "alike t a", "alike ae t", "alike t ae", "alike tr st", "alike t tr", "alike ea a",
    "alike a ea", "alike A e", "alike a E", "alike T d", "alike t D", "alike a 1", "alike - -", "alike aee a",
    "alike a e\n", "alike a\te", "Alike a e", "alike a ", "alike  a", "alike  ",
)


def refused_at(rows):
    """The number that the refusal of rows tells, or None where they are a tongue."""
    try:
        Tongue(rows)
    except NoRule as error:
        return error.at
    return None


class RowsThatAreNone(unittest.TestCase):
    def test_each_is_refused_wherever_it_stands(self):
        self.assertIsNone(refused_at(GOOD))
        for row in NO_ROWS:
            with self.subTest(row=row):
                self.assertEqual(refused_at(GOOD + [row]), 2)
                self.assertEqual(refused_at([row] + GOOD), 0)
                self.assertEqual(refused_at([GOOD[0], row, GOOD[1]]), 1)

    def test_the_first_of_several_is_told(self):
        for one, other in itertools.product(("carry A", "run", "long t", "one at"), repeat=2):
            self.assertEqual(refused_at(GOOD + ["run may", one, "run may", other]), 3)

    def test_the_first_by_its_place_not_by_its_kind(self):
        self.assertEqual(refused_at(["run often", "carry A"] + GOOD), 0)
        self.assertEqual(refused_at(["long t", "one at", "carry A"] + GOOD), 0)

    def test_at_is_a_whole_number(self):
        for rows in (["run"], GOOD + ["run"]):
            self.assertIs(type(refused_at(rows)), int)

    def test_the_rows_stay_as_they_were_when_refused(self):
        rows = GOOD + ["run often", "carry y"]
        before = list(rows)
        self.assertEqual(refused_at(rows), 2)
        self.assertEqual(rows, before)


class EdgesThatAreTold(unittest.TestCase):
    def test_these_are_rows(self):
        rows = (
            "carry a", "carry a a", "carry y", "one ae", "one aa", "one ae ae", "long a", "long ae", "long a ae e",
            "either oe", "either a a", "begin tr", "begin xstr", "begin tt", "split strs", "split tr st str",
            "run never", "run may", "run must", "alike a e", "alike a a", "alike ae a", "alike a ae", "alike ae oe",
            "alike t d", "alike t t",
        )
        for row in rows:
            with self.subTest(row=row):
                self.assertIsNone(refused_at(GOOD + [row]))
                self.assertIsNone(refused_at([row] + GOOD))

    def test_no_rows_at_all(self):
        self.assertIsNone(refused_at([]))

    def test_rows_that_need_no_carrier(self):
        self.assertIsNone(refused_at(["begin ae", "split tr", "run may", "alike a t"]))


class WhatCarriesIsToldByRowsOfItsForm(unittest.TestCase):
    def test_a_later_carry_row_tells_too(self):
        self.assertIsNone(refused_at(["long a", "one ae", "alike a e", "carry e", "carry a"]))
        self.assertEqual(refused_at(["begin ta", "carry a"]), 0)
        self.assertEqual(refused_at(["carry e", "begin tr", "carry r"]), 1)
        self.assertEqual(refused_at(["alike a t", "carry a"]), 0)

    def test_a_carry_row_without_its_form_tells_nothing(self):
        self.assertEqual(refused_at(["long a", "carry a E"]), 0)
        self.assertEqual(refused_at(["carry e", "long a", "carry a ee"]), 1)
        self.assertEqual(refused_at(["begin at", "carry a "]), 1)
        self.assertEqual(refused_at(["carry e", "one ae", "carry a  e"]), 1)
        self.assertEqual(refused_at(["alike a t", "carry a 1"]), 1)

    def test_a_row_with_its_form_tells_beside_one_without(self):
        self.assertEqual(refused_at(["long a", "carry a E", "carry a"]), 1)
        self.assertEqual(refused_at(["long a e", "carry e", "carry e E", "carry a"]), 2)


class WhatIsAPairIsToldByRowsOfItsForm(unittest.TestCase):
    def test_a_later_one_row_tells_too(self):
        self.assertIsNone(refused_at(["long ae", "either ae", "alike ae a", "one ae", "carry a e"]))

    def test_a_one_row_without_its_form_tells_nothing(self):
        self.assertEqual(refused_at(["long ae", "one ae at", "carry a e"]), 0)
        self.assertEqual(refused_at(["carry a e", "alike ae a", "one ae a"]), 1)
        self.assertEqual(refused_at(["carry a e", "either ae", "one ae "]), 1)
        self.assertEqual(refused_at(["carry a e", "either ae", "one ae AE"]), 1)

    def test_a_row_with_its_form_tells_beside_one_without(self):
        self.assertEqual(refused_at(["long ae", "one ae at", "one ae", "carry a e"]), 1)

    def test_a_pair_hangs_on_carry_rows_of_their_form(self):
        self.assertEqual(refused_at(["carry a", "long ae", "one ae", "carry e E"]), 1)
        self.assertEqual(refused_at(["carry a", "one ae", "carry e E"]), 1)
        self.assertEqual(refused_at(["long ae", "one ae", "carry e E", "carry a e"]), 2)


if __name__ == "__main__":
    unittest.main()
