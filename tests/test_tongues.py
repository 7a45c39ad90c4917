"""Tongues [4]: what each kind of row tells, in one row and in several, in whatever order."""

import itertools
import string
import unittest

from lilt.tongues import Tongue

VOWELS = "carry a e i o u"


class Carry(unittest.TestCase):
    def test_told_letters_carry_and_all_others_are_stops(self):
        tongue = Tongue([VOWELS])
        for letter in string.ascii_lowercase:
            self.assertIs(tongue.carries(letter), letter in "aeiou")

    def test_one_letter_is_enough_and_any_letter_may_carry(self):
        for letter in string.ascii_lowercase:
            tongue = Tongue(["carry " + letter])
            self.assertEqual([x for x in string.ascii_lowercase if tongue.carries(x)], [letter])

    def test_several_rows_hold_together(self):
        tongue = Tongue(["carry a e", "run may", "carry e", "carry o o"])
        self.assertEqual([x for x in string.ascii_lowercase if tongue.carries(x)], ["a", "e", "o"])

    def test_without_a_row_nothing_carries(self):
        tongue = Tongue([])
        self.assertEqual([x for x in string.ascii_lowercase if tongue.carries(x)], [])

    def test_all_letters_may_carry(self):
        tongue = Tongue(["carry " + " ".join(string.ascii_lowercase)])
        self.assertTrue(all(tongue.carries(x) for x in string.ascii_lowercase))


class One(unittest.TestCase):
    def test_pairs_in_one_row_and_in_several(self):
        for rows in (["one ae oe"], ["one ae", "one oe"], ["one oe", "one ae oe", "one ae ae"]):
            tongue = Tongue([VOWELS] + rows)
            told = [x + y for x in "aeiout" for y in "aeiout" if tongue.is_pair(x + y)]
            self.assertEqual(told, ["ae", "oe"])

    def test_a_pair_may_be_one_letter_twice(self):
        tongue = Tongue([VOWELS, "one aa"])
        self.assertIs(tongue.is_pair("aa"), True)
        self.assertIs(tongue.is_pair("ee"), False)

    def test_a_pair_is_not_told_the_other_way_round(self):
        self.assertIs(Tongue([VOWELS, "one ae"]).is_pair("ea"), False)

    def test_without_a_row_there_is_none(self):
        self.assertIs(Tongue([VOWELS]).is_pair("ae"), False)


class Weight(unittest.TestCase):
    def test_long_either_and_short(self):
        tongue = Tongue([VOWELS, "one ae oe au", "long e ae", "either i oe"])
        self.assertEqual([tongue.weight(x) for x in ("e", "ae", "i", "oe", "a", "au")], ["-", "-", "x", "x", "u", "u"])

    def test_told_in_several_rows_and_more_than_once(self):
        tongue = Tongue([VOWELS, "long e", "either i i", "long o e", "either u"])
        self.assertEqual([tongue.weight(x) for x in "aeiou"], ["u", "-", "x", "-", "x"])

    def test_long_holds_ahead_of_either_in_both_orders(self):
        self.assertEqual(Tongue([VOWELS, "long a", "either a"]).weight("a"), "-")
        self.assertEqual(Tongue([VOWELS, "either a", "long a"]).weight("a"), "-")

    def test_a_pair_has_a_weight_apart_from_its_letters(self):
        tongue = Tongue([VOWELS, "one ae ei", "long a e", "either ei"])
        self.assertEqual([tongue.weight(x) for x in ("a", "e", "ae", "ei")], ["-", "-", "u", "x"])


class Clusters(unittest.TestCase):
    def test_begin_and_split_are_told_apart(self):
        tongue = Tongue([VOWELS, "begin tr st", "split tr gn"])
        self.assertEqual([tongue.begins(x) for x in ("tr", "st", "gn")], [True, True, False])
        self.assertEqual([tongue.splits(x) for x in ("tr", "st", "gn")], [True, False, True])

    def test_clusters_of_two_to_four_stops(self):
        tongue = Tongue([VOWELS, "begin tr str xstr", "split pl spl kspl"])
        self.assertEqual([tongue.begins(x) for x in ("tr", "str", "xstr")], [True, True, True])
        self.assertEqual([tongue.splits(x) for x in ("pl", "spl", "kspl")], [True, True, True])

    def test_told_in_several_rows_and_more_than_once(self):
        tongue = Tongue(["begin tr", "split gn", VOWELS, "begin st tr", "split tt gn"])
        self.assertEqual([tongue.begins(x) for x in ("tr", "st", "gn")], [True, True, False])
        self.assertEqual([tongue.splits(x) for x in ("gn", "tt", "tr")], [True, True, False])

    def test_any_text_of_letters_may_be_asked(self):
        tongue = Tongue([VOWELS, "begin str", "split str"])
        for text in ("", "s", "r", "st", "tr", "rts", "strs", "strstr", "a", "atr", "aeiou"):
            self.assertIs(tongue.begins(text), False)
            self.assertIs(tongue.splits(text), False)

    def test_answers_are_truths(self):
        tongue = Tongue([VOWELS, "begin str", "split tr"])
        self.assertIs(tongue.begins("str"), True)
        self.assertIs(tongue.splits("tr"), True)


class Run(unittest.TestCase):
    def test_each_of_the_three(self):
        for told in ("never", "may", "must"):
            self.assertEqual(Tongue([VOWELS, "run " + told]).run(), told)

    def test_without_a_row_it_is_never(self):
        self.assertEqual(Tongue([VOWELS]).run(), "never")
        self.assertEqual(Tongue([]).run(), "never")

    def test_of_several_the_last_holds(self):
        for rows in itertools.product(("never", "may", "must"), repeat=3):
            self.assertEqual(Tongue(["run " + told for told in rows] + [VOWELS]).run(), rows[-1])


class Alike(unittest.TestCase):
    def test_told_in_either_order(self):
        tongue = Tongue([VOWELS, "one ae", "alike ae e", "alike t d"])
        for one, other in (("ae", "e"), ("e", "ae"), ("t", "d"), ("d", "t")):
            self.assertIs(tongue.alike(one, other), True)

    def test_the_same_unit_is_alike_told_or_not(self):
        tongue = Tongue([VOWELS, "one ae", "alike a a", "alike t t"])
        for unit in ("a", "e", "ae", "t", "d"):
            self.assertIs(tongue.alike(unit, unit), True)

    def test_others_are_not(self):
        tongue = Tongue([VOWELS, "one ae", "alike ae e", "alike t d", "alike a a"])
        for one, other in (("a", "e"), ("ae", "a"), ("t", "s"), ("a", "t"), ("d", "e")):
            self.assertIs(tongue.alike(one, other), False)
            self.assertIs(tongue.alike(other, one), False)

    def test_not_by_chains(self):
        tongue = Tongue([VOWELS, "alike a e", "alike e i", "alike t d", "alike d s"])
        self.assertIs(tongue.alike("a", "i"), False)
        self.assertIs(tongue.alike("s", "t"), False)
        self.assertIs(tongue.alike("i", "e"), True)

    def test_two_pairs(self):
        tongue = Tongue([VOWELS, "one ae oe", "alike oe ae", "alike oe ae", "alike ae oe"])
        self.assertIs(tongue.alike("ae", "oe"), True)


class Together(unittest.TestCase):
    def test_the_order_of_rows_does_not_matter(self):
        rows = ["carry a", "carry e", "one ae", "long ae", "either a ae", "begin tr"]
        for order in itertools.permutations(rows):
            tongue = Tongue(list(order))
            self.assertEqual([tongue.carries(x) for x in "aei"], [True, True, False])
            self.assertEqual([tongue.weight(x) for x in ("ae", "a", "e")], ["-", "x", "u"])
            self.assertEqual([tongue.is_pair("ae"), tongue.begins("tr")], [True, True])

    def test_a_letter_that_carries_by_a_later_row_is_a_carrier_at_once(self):
        tongue = Tongue(["alike y ay", "long y ay", "one ay", "carry y", "carry a"])
        self.assertEqual([tongue.weight(x) for x in ("y", "ay", "a")], ["-", "-", "u"])

    def test_sixty_rows(self):
        rows = ["begin t" + x + y for x in "bcdfghjkl" for y in "mnpqrs"] + ["one aa"] * 5 + ["carry a"]
        self.assertEqual(len(rows), 60)
        tongue = Tongue(rows)
        self.assertTrue(tongue.begins("tls") and tongue.begins("tbm") and tongue.is_pair("aa"))


class HandedIn(unittest.TestCase):
    """[2]: the list of rows stays as it was, and what is done to it afterwards changes nothing."""

    def test_the_rows_stay_as_they_were(self):
        rows = [VOWELS, "one ae", "run may", "run must", "alike t d", "begin tr", "split tr", "long ae", "either a"]
        before = list(rows)
        Tongue(rows)
        self.assertEqual(rows, before)

    def test_what_is_done_to_the_rows_afterwards_changes_nothing(self):
        rows = ["carry a e", "one ae", "run may", "alike t d", "begin tr", "split tr", "long ae", "either a"]
        tongue = Tongue(rows)
        rows.append("run must")
        rows[0] = "carry i"
        rows[1:] = []
        self.assertEqual([tongue.carries(x) for x in "aei"], [True, True, False])
        self.assertEqual([tongue.weight("ae"), tongue.weight("a"), tongue.run()], ["-", "x", "may"])
        self.assertTrue(tongue.is_pair("ae") and tongue.begins("tr") and tongue.splits("tr"))
        self.assertTrue(tongue.alike("d", "t"))

    def test_two_tongues_are_apart(self):
        one = Tongue(["carry a", "run may"])
        other = Tongue(["carry e"])
        self.assertEqual([one.carries("a"), one.carries("e"), one.run()], [True, False, "may"])
        self.assertEqual([other.carries("a"), other.carries("e"), other.run()], [False, True, "never"])


if __name__ == "__main__":
    unittest.main()
