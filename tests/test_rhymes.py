"""Rhyme [23] [24]: the end of a word, two words that rhyme, and rhyme by chains or three at which it isn't."""

import itertools
import random
import unittest

from lilt.errors import LiltError, NoWord
from lilt.rhymes import chains_of, end_of, rhymes
from lilt.tongues import Tongue
from plain import NO_WORDS

TONGUE = Tongue(["carry a e i o u", "one ae au", "alike ae e", "alike t d", "alike e i"])


class Ends(unittest.TestCase):
    def test_from_the_last_unit_that_carries(self):
        for word, end in (("a", ["a"]), ("ba", ["a"]), ("ab", ["a", "b"]), ("baba", ["a"]), ("babab", ["a", "b"]),
                          ("strst", None), ("astrst", ["a", "s", "t", "r", "s", "t"]), ("aei", ["i"]),
                          ("tand", ["a", "n", "d"])):
            if end is None:
                self.assertRaises(NoWord, end_of, TONGUE, word)
            else:
                self.assertEqual(end_of(TONGUE, word), end)

    def test_a_pair_is_one_unit(self):
        self.assertEqual(end_of(TONGUE, "bae"), ["ae"])
        self.assertEqual(end_of(TONGUE, "baest"), ["ae", "s", "t"])
        self.assertEqual(end_of(TONGUE, "aae"), ["ae"])
        self.assertEqual(end_of(TONGUE, "bea"), ["a"])
        # Read from the left, the first two are the pair.
        self.assertEqual(end_of(TONGUE, "baeu"), ["u"])
        self.assertEqual(end_of(TONGUE, "baau"), ["au"])
        self.assertEqual(end_of(Tongue(["carry a e", "one aa"]), "aaa"), ["a"])
        self.assertEqual(end_of(Tongue(["carry a e", "one aa"]), "aaaa"), ["aa"])
        self.assertEqual(end_of(Tongue(["carry a e"]), "bae"), ["e"])

    def test_words_of_24_letters(self):
        self.assertEqual(end_of(TONGUE, "a" + "b" * 23), ["a"] + ["b"] * 23)
        self.assertEqual(end_of(TONGUE, "b" * 23 + "a"), ["a"])

    def test_a_new_list(self):
        end_of(TONGUE, "bab").append("x")
        self.assertEqual(end_of(TONGUE, "bab"), ["a", "b"])
        self.assertIs(type(end_of(TONGUE, "bab")), list)

    def test_what_is_no_word(self):
        for thing in NO_WORDS:
            self.assertRaises(NoWord, end_of, TONGUE, thing)


class TwoWords(unittest.TestCase):
    def both(self, one, other, told):
        self.assertIs(rhymes(TONGUE, one, other), told)
        self.assertIs(rhymes(TONGUE, other, one), told)

    def test_the_same_end(self):
        self.both("ba", "ba", True)
        self.both("ba", "ta", True)
        self.both("a", "strabra", True)
        self.both("tand", "rand", True)
        self.both("bab", "tbb" + "ab", True)

    def test_another_end(self):
        self.both("ba", "bo", False)
        self.both("tand", "tang", False)
        self.both("tand", "tond", False)
        self.both("tasd", "tand", False)

    def test_ends_of_unlike_numbers_of_units(self):
        self.both("ba", "bab", False)
        self.both("tan", "tand", False)
        self.both("tand", "tan", False)
        self.both("ba", "abb", False)
        # Two signs each, but one unit of the one is two of the other.
        self.both("bae", "bab", False)
        self.both("bae", "bad", False)

    def test_alike_in_either_order(self):
        self.both("bae", "be", True)
        self.both("be", "bi", True)
        self.both("bat", "bad", True)
        self.both("bet", "bid", True)
        self.both("baet", "bed", True)
        self.both("batd", "badt", True)
        self.both("batd", "bat", False)

    def test_alike_goes_no_further_than_told(self):
        self.both("bae", "bi", False)
        self.both("bo", "bu", False)
        self.both("bap", "bad", False)
        self.both("ba", "bae", False)

    def test_what_is_ahead_of_the_end_does_not_count(self):
        self.both("babe", "tobe", True)
        self.both("ebab", "obab", True)

    def test_alike_that_is_told_of_one_unit_twice(self):
        tongue = Tongue(["carry a e", "alike a a", "alike b b"])
        self.assertIs(rhymes(tongue, "ab", "ab"), True)
        self.assertIs(rhymes(tongue, "ab", "eb"), False)

    def test_stops_alike_are_told_by_one_row_of_several(self):
        tongue = Tongue(["alike b p", "alike p f", "carry a"])
        self.assertIs(rhymes(tongue, "ab", "ap"), True)
        self.assertIs(rhymes(tongue, "af", "ap"), True)
        self.assertIs(rhymes(tongue, "ab", "af"), False)

    def test_what_is_no_word(self):
        for thing in NO_WORDS:
            self.assertRaises(NoWord, rhymes, TONGUE, thing, "ba")
            self.assertRaises(NoWord, rhymes, TONGUE, "ba", thing)
            self.assertRaises(NoWord, rhymes, TONGUE, thing, thing)
        with self.assertRaises(LiltError):
            rhymes(TONGUE, "ba", "b")


class Chains(unittest.TestCase):
    def hold(self, words, told):
        self.assertEqual(chains_of(TONGUE, words), told)

    def test_no_words_and_one(self):
        self.hold([], ("classes", []))
        self.hold(["ba"], ("classes", [[0]]))

    def test_classes_by_their_first_numbers(self):
        self.hold(["ba", "bo", "ta", "bu", "to", "ra"], ("classes", [[0, 2, 5], [1, 4], [3]]))
        self.hold(["bo", "ba", "ta"], ("classes", [[0], [1, 2]]))

    def test_a_word_more_than_once(self):
        self.hold(["ba", "ba", "bo", "ba"], ("classes", [[0, 1, 3], [2]]))

    def test_alike_ends(self):
        self.hold(["bat", "bot", "bad", "bod"], ("classes", [[0, 2], [1, 3]]))
        self.hold(["be", "ba", "bi"], ("classes", [[0, 2], [1]]))
        self.hold(["bae", "ba", "bi"], ("classes", [[0], [1], [2]]))

    def test_broken(self):
        self.hold(["bae", "be", "bi"], ("broken", (0, 1, 2)))
        self.hold(["be", "bae", "bi"], ("broken", (1, 0, 2)))
        self.hold(["bae", "bi", "be"], ("broken", (0, 2, 1)))
        self.hold(["bi", "be", "bae"], ("broken", (0, 1, 2)))

    def test_broken_behind_other_words(self):
        self.hold(["ba", "bo", "ta", "bi", "bu", "bae", "ba", "be"], ("broken", (3, 7, 5)))
        self.hold(["ba", "bae", "te", "be", "bi"], ("broken", (1, 2, 4)))

    def test_the_first_by_i_then_by_j_then_by_k(self):
        self.hold(["be", "bae", "bi", "bi"], ("broken", (1, 0, 2)))
        self.hold(["bae", "bae", "be", "be", "bi", "bi"], ("broken", (0, 2, 4)))
        self.hold(["be", "bi", "ti", "bae"], ("broken", (1, 0, 3)))

    def test_two_places_of_which_one_breaks(self):
        self.hold(["baet", "bed", "bit"], ("broken", (0, 1, 2)))
        self.hold(["baet", "be", "bit"], ("classes", [[0], [1], [2]]))

    def test_what_is_no_word(self):
        for thing in NO_WORDS:
            for words in ([thing], ["ba", thing], [thing, "ba"], ["bae", "be", "bi", thing], ["ba", thing, "ba"]):
                self.assertRaises(NoWord, chains_of, TONGUE, words)

    def test_three_hundred_words(self):
        words = [stops + "a" for stops in ("b", "d", "t")] * 100
        self.hold(words, ("classes", [list(range(300))]))
        self.hold(["be"] * 297 + ["bae", "bo", "bi"], ("broken", (297, 0, 299)))
        self.hold(["be"] * 150 + ["bo"] * 149 + ["bae"], ("classes", [list(range(150)) + [299], list(range(150, 299))]))

    def test_nothing_changed_and_new_lists(self):
        words = ["ba", "bo", "ta"]
        told = chains_of(TONGUE, words)
        for numbers in told[1]:
            numbers.append("x")
        told[1].append("x")
        self.assertEqual(words, ["ba", "bo", "ta"])
        self.hold(words, ("classes", [[0, 2], [1]]))
        words = ["bae", "be", "bi"]
        chains_of(TONGUE, words)
        self.assertEqual(words, ["bae", "be", "bi"])

    def test_kinds(self):
        told = chains_of(TONGUE, ["ba", "bo"])
        self.assertEqual([type(part) for part in told], [str, list])
        self.assertEqual([type(numbers) for numbers in told[1]], [list, list])
        told = chains_of(TONGUE, ["bae", "be", "bi"])
        self.assertEqual([type(part) for part in told], [str, tuple])
        self.assertIs(type(told), tuple)


def plain_chains(tongue, words):
    """All threes gone through one by one."""
    told = [[rhymes(tongue, one, other) for other in words] for one in words]
    for i, j, k in itertools.permutations(range(len(words)), 3):
        if told[i][j] and told[j][k] and not told[i][k]:
            return ("broken", (i, j, k))
    classes = {tuple(number for number, near in enumerate(row) if near) for row in told}
    return ("classes", sorted(list(numbers) for numbers in classes))


class AgainstAll(unittest.TestCase):
    def test_threes_one_by_one(self):
        chance = random.Random(24)
        met = {"classes": 0, "broken": 0}
        for number in range(400):
            rows = [" ".join(["alike"] + chance.sample("aeio", k=2)) for row in range(chance.randint(0, 4))]
            rows.extend(" ".join(["alike"] + chance.choices("bdt", k=2)) for row in range(chance.randint(0, 2)))
            tongue = Tongue(["carry a e i o u"] + rows)
            words = ["".join([chance.choice("aeio"), chance.choice(["", "", "b", "d"])])
                     for word in range(chance.randint(0, 12))]
            told = chains_of(tongue, words)
            self.assertEqual(told, plain_chains(tongue, words))
            met[told[0]] = met[told[0]] + 1
        self.assertGreater(min(met.values()), 50)


if __name__ == "__main__":
    unittest.main()
