"""Mending [19] [20]: the choices for a word, and a right mending of the least price, or None."""

import copy
import random
import unittest

from lilt.errors import LiltError, NoWord
from lilt.mending import choices_of, mend
from lilt.metres import read_metre
from lilt.readings import many_readings
from lilt.tables import table_of
from lilt.tongues import Tongue
from plain import NO_WORDS, mendings_in, right_mendings, some_mending, some_tongue

# a is short, e long, o either; no word runs into the next one.
ROWS = ["carry a e o", "long e", "either o"]
EIGHT = [("ba", other, price) for price, other in enumerate(("be", "bo", "bab", "ab", "abab", "ba", "eba", "baba"), 1)]


class Choices(unittest.TestCase):
    def test_without_others(self):
        self.assertEqual(choices_of("ba", []), [("ba", 0)])
        self.assertEqual(choices_of("ba", [("be", "ba", 2), ("bab", "bo", 1), ("b", "bi", 1)]), [("ba", 0)])

    def test_in_their_order_and_not_by_price(self):
        others = [("ba", "be", 7), ("be", "ba", 1), ("ba", "ab", 3), ("bo", "ba", 2), ("ba", "a", 5)]
        self.assertEqual(choices_of("ba", others), [("ba", 0), ("be", 7), ("ab", 3), ("a", 5)])
        self.assertEqual(choices_of("be", others), [("be", 0), ("ba", 1)])
        self.assertEqual(choices_of("bo", others), [("bo", 0), ("ba", 2)])

    def test_eight_of_them(self):
        self.assertEqual(choices_of("ba", EIGHT), [("ba", 0), ("be", 1), ("bo", 2), ("bab", 3), ("ab", 4), ("abab", 5),
                                                   ("ba", 6), ("eba", 7), ("baba", 8)])

    def test_itself_among_them(self):
        self.assertEqual(choices_of("ba", [("ba", "ba", 4)]), [("ba", 0), ("ba", 4)])

    def test_one_that_is_told_more_than_once(self):
        others = [("ba", "be", 4), ("ba", "be", 4), ("ba", "be", 2)]
        self.assertEqual(choices_of("ba", others), [("ba", 0), ("be", 4), ("be", 4), ("be", 2)])

    def test_a_great_price(self):
        self.assertEqual(choices_of("ba", [("ba", "be", 10 ** 59)]), [("ba", 0), ("be", 10 ** 59)])

    def test_forty_of_them(self):
        others = [("b" + "a" * (number // 8 + 1), "be", number + 1) for number in range(40)]
        self.assertEqual(choices_of("baa", others), [("baa", 0)] + [("be", price) for price in range(9, 17)])

    def test_new_lists_and_nothing_changed(self):
        others = list(EIGHT)
        choices = choices_of("ba", others)
        choices.append("x")
        choices[0] = None
        self.assertEqual(others, EIGHT)
        self.assertEqual(choices_of("ba", others)[0], ("ba", 0))
        self.assertEqual(len(choices_of("ba", others)), 9)
        self.assertEqual([type(choice) for choice in choices_of("ba", others)], [tuple] * 9)


class ByHand(unittest.TestCase):
    def hold(self, words, text, others, mending, *rows):
        self.assertEqual(mend(Tongue(ROWS + list(rows)), words, read_metre(text), others), mending)

    def test_a_row_that_needs_none(self):
        self.hold(["ba", "be"], "u -", [], (0, ["ba", "be"]))
        self.hold(["ba", "be"], "u -", [("ba", "bo", 1), ("be", "bo", 1)], (0, ["ba", "be"]))
        self.hold(["ba"], "x", EIGHT, (0, ["ba"]))

    def test_one_word_put_for_another(self):
        self.hold(["ba", "ba"], "u -", [("ba", "be", 3)], (3, ["ba", "be"]))
        self.hold(["ba", "ba"], "- u", [("ba", "be", 3)], (3, ["be", "ba"]))
        self.hold(["ba", "ba"], "- -", [("ba", "be", 3)], (6, ["be", "be"]))

    def test_where_none_is_right(self):
        self.hold(["ba"], "-", [], None)
        self.hold(["ba"], "-", [("be", "bo", 1), ("ba", "bab", 2), ("ba", "a", 1)], (2, ["bab"]))
        self.hold(["ba"], "- -", EIGHT, None)
        self.hold(["be", "be"], "u", [("be", "ba", 1)], None)
        self.hold(["ba"], "u u u u", EIGHT, None)

    def test_a_row_without_words(self):
        self.hold([], "u", [], None)
        self.hold([], "x/xx", EIGHT, None)
        self.hold([], "x |", [("ba", "be", 1)], None)

    def test_the_least_of_several(self):
        self.hold(["ba"], "-", [("ba", "be", 5), ("ba", "bab", 2), ("ba", "bo", 3)], (2, ["bab"]))
        self.hold(["ba"], "-", [("ba", "be", 5), ("ba", "be", 2), ("ba", "be", 3)], (2, ["be"]))

    def test_one_dear_word_or_two_cheap_ones(self):
        # u u becomes - u by the first alone, or - by nothing: it is the sum that counts.
        dear = [("ba", "be", 9), ("bo", "bab", 4)]
        self.hold(["ba", "bo"], "-u/u-", dear, (0, ["ba", "bo"]))
        self.hold(["ba", "ba", "bo"], "-u-/uuuu", dear + [("bo", "bobo", 10)], (9, ["be", "ba", "bo"]))
        self.hold(["ba", "ba", "bo"], "-u-/uuuu", dear + [("bo", "bobo", 8)], (8, ["ba", "ba", "bobo"]))

    def test_itself_among_the_others(self):
        self.hold(["ba"], "u", [("ba", "ba", 4)], (0, ["ba"]))
        self.hold(["ba"], "-", [("ba", "ba", 4)], None)
        self.hold(["ba"], "-", [("ba", "ba", 1), ("ba", "be", 4)], (4, ["be"]))

    def test_an_other_is_not_mended_again(self):
        self.hold(["ba"], "--", [("ba", "be", 1), ("be", "beb", 1), ("be", "bebe", 1)], None)

    def test_eight_others(self):
        self.hold(["ba"], "uu/-", EIGHT, (1, ["be"]))
        self.hold(["ba"], "uu", EIGHT, (8, ["baba"]))
        self.hold(["ba"], "u-", EIGHT, (5, ["abab"]))
        self.hold(["ba"], "-u", EIGHT, (7, ["eba"]))
        self.hold(["ba", "ba"], "-u -u", EIGHT, (14, ["eba", "eba"]))

    def test_great_prices(self):
        self.hold(["ba", "ba"], "- -", [("ba", "be", 10 ** 59)], (2 * 10 ** 59, ["be", "be"]))
        self.hold(["ba"], "-", [("ba", "be", 10 ** 59 + 1), ("ba", "bo", 10 ** 59)], (10 ** 59, ["bo"]))

    def test_more_syllables_or_fewer(self):
        self.hold(["ba"], "u u u", [("ba", "bababa", 2)], (2, ["bababa"]))
        self.hold(["bababa"], "u", [("bababa", "ba", 2)], (2, ["ba"]))

    def test_a_cut(self):
        others = [("bababa", "ba", 5), ("baba", "bababa", 6), ("bababa", "baba", 2)]
        self.hold(["bababa", "baba"], "uuu uu", others, (0, ["bababa", "baba"]))
        self.hold(["bababa", "baba"], "uu | u/uuu", others, (8, ["baba", "bababa"]))
        self.hold(["bababa", "baba"], "u | uuu", others, (11, ["ba", "bababa"]))
        self.hold(["bababa", "baba"], "uuuu | u", others, None)

    def test_the_next_word_opens_a_syllable(self):
        others = [("ba", "a", 5), ("ba", "abe", 1)]
        self.hold(["bab", "ba"], "- u", others, (0, ["bab", "ba"]))
        self.hold(["bab", "ba"], "u u", others, (5, ["bab", "a"]))
        self.hold(["babb", "ba"], "u u", others, None)

    def test_the_word_ahead_is_opened_by_the_one_behind(self):
        # The same word ahead of two choices is said in two ways: the cheaper choice must not hide the dearer one.
        others = [("ba", "a", 5), ("ba", "bo", 1), ("bab", "bob", 1)]
        self.hold(["bab", "ba", "bab"], "u u -", others, (5, ["bab", "a", "bab"]))
        self.hold(["bab", "ba", "bab"], "- - -", others, (1, ["bab", "bo", "bab"]))

    def test_one_runs_into_the_next(self):
        self.hold(["ba", "a"], "u", [], (0, ["ba", "a"]), "run must")
        self.hold(["ba", "a"], "u u", [], None, "run must")
        self.hold(["ba", "a"], "u u", [("a", "ba", 2)], (2, ["ba", "ba"]), "run must")
        self.hold(["ba", "a"], "u u", [("ba", "bab", 3)], (3, ["bab", "a"]), "run must")
        self.hold(["ba", "be"], "-", [("be", "e", 1)], (1, ["ba", "e"]), "run must")

    def test_one_may_run_into_the_next(self):
        self.hold(["ba", "a"], "u", [], (0, ["ba", "a"]), "run may")
        self.hold(["ba", "a"], "u u", [], (0, ["ba", "a"]), "run may")
        self.hold(["ba", "be"], "-", [("be", "e", 1)], (1, ["ba", "e"]), "run may")
        self.hold(["ba", "be"], "u -", [("be", "e", 1)], (0, ["ba", "be"]), "run may")

    def test_one_does_not_run_into_the_next(self):
        self.hold(["ba", "a"], "u", [], None)
        self.hold(["ba", "a"], "u u", [], (0, ["ba", "a"]))

    def test_words_that_are_not_said_at_all(self):
        self.hold(["a", "a", "a", "e"], "-", [], (0, ["a", "a", "a", "e"]), "run must")
        self.hold(["a", "a", "a", "be"], "u -", [], (0, ["a", "a", "a", "be"]), "run must")
        self.hold(["a", "a", "a", "a"], "-", [("a", "e", 2)], (2, ["a", "a", "a", "e"]), "run must")

    def test_where_an_unsaid_end_makes_no_cut(self):
        self.hold(["baba", "a"], "u | u", [], None, "run must")
        self.hold(["baba", "a"], "u | u", [("baba", "bab", 4)], (4, ["bab", "a"]), "run must")

    def test_a_split_syllable(self):
        rows = ["begin br", "split br"]
        self.hold(["ababra"], "u-u", [], (0, ["ababra"]), *rows)
        self.hold(["ababa"], "u-u", [("ababa", "ababra", 6)], (6, ["ababra"]), *rows)
        self.hold(["ababa"], "u-u", [("ababa", "ababra", 6)], None, "begin br")


class Refused(unittest.TestCase):
    def test_one_of_the_words_is_none(self):
        tongue = Tongue(ROWS)
        for thing in NO_WORDS:
            for words in ([thing], ["ba", thing], [thing, "ba"], ["ba", thing, "ba"], [thing, thing]):
                for text in ("u u", "-"):
                    self.assertRaises(NoWord, mend, tongue, words, read_metre(text), [("ba", "be", 1)])

    def test_also_where_an_other_is_told_for_it(self):
        self.assertRaises(NoWord, mend, Tongue(ROWS), ["brr"], read_metre("u"), [("brr", "ba", 1)])
        with self.assertRaises(LiltError):
            mend(Tongue(ROWS), ["ba", "BE"], read_metre("u"), [])

    def test_words_at_the_edge(self):
        tongue = Tongue(ROWS)
        word = "a" * 24
        metre = read_metre(" ".join(["uuuu"] * 6))
        self.assertEqual(mend(tongue, [word], metre, []), (0, [word]))
        self.assertRaises(NoWord, mend, tongue, [word + "a"], metre, [])


class AgainstAll(unittest.TestCase):
    def test_one_by_one(self):
        chance = random.Random(19)
        none = 0
        dear = 0
        for number in range(500):
            tongue = some_tongue(chance)
            words, others, metre = some_mending(chance, tongue)
            right = right_mendings(tongue, words, metre, others)
            mending = mend(tongue, words, metre, others)
            if not right:
                self.assertIs(mending, None)
                none = none + 1
            else:
                self.assertIn(mending, right)
                self.assertEqual(mending[0], min(price for price, taken in right))
                dear = dear + (mending[0] > 0)
                self.assertGreater(many_readings(table_of(tongue, mending[1]), metre), 0)
        self.assertGreater(none, 50)
        self.assertGreater(dear, 50)

    def test_price_nought_just_where_there_is_a_reading(self):
        chance = random.Random(20)
        for number in range(200):
            tongue = some_tongue(chance)
            words, others, metre = some_mending(chance, tongue)
            readings = many_readings(table_of(tongue, words), metre)
            mending = mend(tongue, words, metre, others)
            self.assertEqual(mending == (0, words), readings > 0)

    def test_twelve_words_of_eight_others(self):
        # Of sixty syllables the metre takes forty-eight, four for a word: the least is five of six words, three of six.
        tongue = Tongue(ROWS)
        prices = ((1, 9), (2, 7), (3, 2), (4, 5), (6, 1), (7, 1), (8, 1), (9, 1))
        others = [("ba" * 5, "ba" * many, price) for many, price in prices]
        metre = read_metre(" ".join(["xxxx"] * 12))
        words = ["ba" * 5] * 12
        price, taken = mend(tongue, words, metre, others)
        self.assertEqual(price, 12)
        self.assertEqual(sorted(taken), ["ba" * 3] * 6 + ["ba" * 5] * 6)
        self.assertIs(mend(tongue, words, metre, others[4:]), None)

    def test_twelve_words_that_go_through_many_states(self):
        tongue = Tongue(["carry a e o", "either a e o", "run may"])
        word = "aeoae"
        others = [(word, "ao" * many, 9 - many) for many in range(1, 8)] + [(word, "o" * 24, 1)]
        metre = read_metre(" ".join(["u/x-/-u-/xxu-"] * 12))
        # Each word but the last may lose its end: twelve of five syllables are forty-nine marks or more.
        price, taken = mend(tongue, [word] * 12, metre, others)
        self.assertEqual(sum(dict([(word, 0)] + [told[1:] for told in others])[other] for other in taken), price)
        self.assertGreater(many_readings(table_of(tongue, taken), metre), 0)
        # One word less by one mark at least is enough, and the cheapest of these is of four syllables.
        self.assertEqual(price, 7)


class Own(unittest.TestCase):
    def test_what_was_handed_in_stays_as_it_was(self):
        rows = list(ROWS)
        tongue = Tongue(rows)
        for words, others in ((["ba", "ba"], list(EIGHT)), (["ba", "be"], []), ([], list(EIGHT))):
            before = copy.deepcopy((words, others))
            mend(tongue, words, read_metre("u -"), others)
            mend(tongue, words, read_metre("uuuu uuuu"), others)
            self.assertEqual((words, others), before)
        words = ["ba", "b"]
        self.assertRaises(NoWord, mend, tongue, words, read_metre("u"), [])
        self.assertEqual(words, ["ba", "b"])

    def test_every_list_is_a_new_one(self):
        tongue = Tongue(ROWS)
        words = ["ba", "be"]
        metre = read_metre("u -")
        mending = mend(tongue, words, metre, [])
        self.assertIsNot(mending[1], words)
        mending[1].append("x")
        self.assertEqual(words, ["ba", "be"])
        self.assertEqual(mend(tongue, words, metre, []), (0, ["ba", "be"]))

    def test_kinds(self):
        mending = mend(Tongue(ROWS), ["ba"], read_metre("u"), EIGHT)
        self.assertIs(type(mending), tuple)
        self.assertEqual([type(part) for part in mending], [int, list])

    def test_the_oracle_goes_through_all(self):
        self.assertEqual(len(mendings_in(["ba", "ba"], EIGHT)), 81)
        self.assertEqual(mendings_in([], EIGHT), [(0, [])])


if __name__ == "__main__":
    unittest.main()
