"""Syllables [7], [8]: how the stops of a word go to its carriers."""

import itertools
import unittest

from lilt.tongues import Tongue
from lilt.words import is_word, syllables_of, units_of

VOWELS = "carry a e i o u"


def cut(rows, word):
    """The syllables of a word as (head, carrier, tail), in a tongue told by rows beside the vowels'."""
    return [syllable[:3] for syllable in syllables_of(Tongue([VOWELS] + rows), word)]


class HeadsAndTails(unittest.TestCase):
    def test_no_stops(self):
        self.assertEqual(cut([], "a"), [("", "a", "")])
        self.assertEqual(cut([], "ai"), [("", "a", ""), ("", "i", "")])
        self.assertEqual(cut(["one ae"], "aea"), [("", "ae", ""), ("", "a", "")])

    def test_stops_ahead_of_the_first_and_behind_the_last(self):
        self.assertEqual(cut([], "strabs"), [("str", "a", "bs")])
        self.assertEqual(cut(["begin bs"], "strabs"), [("str", "a", "bs")])
        self.assertEqual(cut(["split str bs"], "strabs"), [("str", "a", "bs")])
        self.assertEqual(cut([], "strasebs"), [("str", "a", ""), ("s", "e", "bs")])
        self.assertEqual(cut([], "bbbbbbabbbbbb"), [("bbbbbb", "a", "bbbbbb")])

    def test_one_stop_between_goes_over(self):
        self.assertEqual(cut([], "pare"), [("p", "a", ""), ("r", "e", "")])
        self.assertEqual(cut(["one ae"], "aebae"), [("", "ae", ""), ("b", "ae", "")])

    def test_of_several_the_last_alone_goes_over_where_no_beginning_ends_them(self):
        self.assertEqual(cut([], "patre"), [("p", "a", "t"), ("r", "e", "")])
        self.assertEqual(cut([], "panstre"), [("p", "a", "nst"), ("r", "e", "")])
        self.assertEqual(cut(["begin ns st"], "panstre"), [("p", "a", "nst"), ("r", "e", "")])
        self.assertEqual(cut(["begin nst"], "panstre"), [("p", "a", "nst"), ("r", "e", "")])

    def test_a_beginning_that_ends_them_goes_over(self):
        self.assertEqual(cut(["begin tr"], "patre"), [("p", "a", ""), ("tr", "e", "")])
        self.assertEqual(cut(["begin tr"], "panstre"), [("p", "a", "ns"), ("tr", "e", "")])

    def test_the_longest_of_them_in_whatever_order(self):
        for rows in itertools.permutations(["begin tr", "begin str", "begin xstr"]):
            self.assertEqual(cut(list(rows), "paxstre"), [("p", "a", ""), ("xstr", "e", "")])
            self.assertEqual(cut(list(rows), "panxstre"), [("p", "a", "n"), ("xstr", "e", "")])
            self.assertEqual(cut(list(rows), "panstre"), [("p", "a", "n"), ("str", "e", "")])
            self.assertEqual(cut(list(rows), "pantre"), [("p", "a", "n"), ("tr", "e", "")])
            self.assertEqual(cut(list(rows), "panre"), [("p", "a", "n"), ("r", "e", "")])

    def test_a_long_beginning_needs_no_shorter_one(self):
        self.assertEqual(cut(["begin xstr"], "panxstre"), [("p", "a", "n"), ("xstr", "e", "")])
        self.assertEqual(cut(["begin xstr"], "panstre"), [("p", "a", "nst"), ("r", "e", "")])

    def test_more_stops_than_a_cluster_has(self):
        self.assertEqual(cut(["begin tr"], "abcdfghtre"), [("", "a", "bcdfgh"), ("tr", "e", "")])
        self.assertEqual(cut([], "abcdfghtre"), [("", "a", "bcdfght"), ("r", "e", "")])

    def test_each_gap_by_itself(self):
        self.assertEqual(
            cut(["begin tr st"], "strastretastoars"),
            [("str", "a", "s"), ("tr", "e", ""), ("t", "a", ""), ("st", "o", ""), ("", "a", "rs")],
        )


class Split(unittest.TestCase):
    def test_all_of_them_told_by_split_go_over(self):
        tongue = Tongue([VOWELS, "split tr"])
        self.assertEqual(syllables_of(tongue, "patre"), [("p", "a", "", True), ("tr", "e", "", False)])

    def test_only_where_they_are_all_of_them(self):
        tongue = Tongue([VOWELS, "split tr"])
        self.assertEqual(syllables_of(tongue, "pastre"), [("p", "a", "st", False), ("r", "e", "", False)])
        self.assertEqual(syllables_of(tongue, "patrse"), [("p", "a", "tr", False), ("s", "e", "", False)])
        self.assertEqual(syllables_of(tongue, "pare"), [("p", "a", "", False), ("r", "e", "", False)])
        self.assertEqual(syllables_of(tongue, "patere")[0], ("p", "a", "", False))

    def test_split_goes_ahead_of_a_beginning_within_them(self):
        tongue = Tongue([VOWELS, "begin tr", "split str"])
        self.assertEqual(syllables_of(tongue, "pastre"), [("p", "a", "", True), ("str", "e", "", False)])

    def test_told_by_begin_and_by_split(self):
        tongue = Tongue([VOWELS, "begin tr", "split tr"])
        self.assertEqual(syllables_of(tongue, "patre"), [("p", "a", "", True), ("tr", "e", "", False)])
        self.assertEqual(syllables_of(tongue, "pastre"), [("p", "a", "s", False), ("tr", "e", "", False)])

    def test_told_by_begin_alone_is_not_split(self):
        tongue = Tongue([VOWELS, "begin tr"])
        self.assertEqual(syllables_of(tongue, "patre"), [("p", "a", "", False), ("tr", "e", "", False)])

    def test_four_stops(self):
        tongue = Tongue([VOWELS, "split xstr"])
        self.assertEqual(syllables_of(tongue, "axstre"), [("", "a", "", True), ("xstr", "e", "", False)])

    def test_not_ahead_of_the_first_nor_behind_the_last(self):
        tongue = Tongue([VOWELS, "split tr"])
        self.assertEqual(syllables_of(tongue, "tratr"), [("tr", "a", "tr", False)])

    def test_several_in_one_word(self):
        tongue = Tongue([VOWELS, "one ae", "split tr gn"])
        self.assertEqual(
            syllables_of(tongue, "tratraegnotr"),
            [("tr", "a", "", True), ("tr", "ae", "", True), ("gn", "o", "tr", False)],
        )


class Form(unittest.TestCase):
    def test_a_syllable_is_a_tuple_of_three_texts_and_a_truth(self):
        tongue = Tongue([VOWELS, "split tr"])
        for syllable in syllables_of(tongue, "patresta"):
            self.assertIs(type(syllable), tuple)
            self.assertEqual([type(thing) for thing in syllable], [str, str, str, bool])

    def test_over_all_short_words_they_are_the_word_with_one_carrier_each(self):
        tongue = Tongue(["carry a e", "one ae", "begin tr str", "split tr rr"])
        for letters in itertools.chain(*[itertools.product("aestr", repeat=many) for many in range(1, 7)]):
            word = "".join(letters)
            if is_word(tongue, word):
                syllables = syllables_of(tongue, word)
                self.assertEqual("".join(["".join(syllable[:3]) for syllable in syllables]), word)
                carriers = [unit for unit in units_of(tongue, word) if unit in ("a", "e", "ae")]
                self.assertEqual([syllable[1] for syllable in syllables], carriers)
                self.check_gaps(tongue, syllables)

    def check_gaps(self, tongue, syllables):
        for one, other in zip(syllables, syllables[1:]):
            stops = one[2] + other[0]
            self.assertIs(one[3], stops in ("tr", "rr"))
            if one[3]:
                self.assertEqual(one[2], "")
            elif stops.endswith("str"):
                self.assertEqual(other[0], "str")
            elif stops.endswith("tr"):
                self.assertEqual(other[0], "tr")
            else:
                self.assertEqual(other[0], stops[-1:])
        self.assertIs(syllables[-1][3], False)

    def test_each_list_is_a_new_one(self):
        tongue = Tongue([VOWELS])
        first = syllables_of(tongue, "pare")
        first.append(None)
        first[0] = None
        self.assertEqual(syllables_of(tongue, "pare"), [("p", "a", "", False), ("r", "e", "", False)])


if __name__ == "__main__":
    unittest.main()
