"""Tables [10]: the options of a row of words, each word followed by the next and the last one by none."""

import unittest

from lilt.errors import NoWord
from lilt.tables import table_of
from lilt.tongues import Tongue
from plain import LONG, SHORT, SPLIT

ROWS = ["carry a e i o u", "one ae", "long u ae", "either o", "begin tr", "split tr"]
NEVER = Tongue(ROWS)
MAY = Tongue(ROWS + ["run may"])
MUST = Tongue(ROWS + ["run must"])

NO_WORDS = ("", "t", "A", "a b", "a1", " a", "a\n", "a" * 25, None, True, 0, 7, [], ["a"], ("a",), {}, b"a", 1.5,
            object())


class TableOf(unittest.TestCase):
    def test_no_words(self):
        for tongue in (NEVER, MAY, MUST, Tongue([])):
            self.assertEqual(table_of(tongue, []), [])

    def test_one_word_is_followed_by_none(self):
        self.assertEqual(table_of(NEVER, ["a"]), [[[SHORT]]])
        self.assertEqual(table_of(MUST, ["a"]), [[[SHORT]]])
        self.assertEqual(table_of(NEVER, ["bat"]), [[[LONG]]])
        self.assertEqual(table_of(NEVER, ["potrust"]), [[[SHORT, LONG, SPLIT], [LONG]]])

    def test_the_document_s_two_words(self):
        rows = ["carry a e i", "either e i", "begin tr", "split tr"]
        last = [[SHORT, LONG], [SHORT]]
        for run, options in (("never", [SHORT, LONG]), ("may", [SHORT, LONG, None]), ("must", [None])):
            table = table_of(Tongue(rows + ["run " + run]), ["patre", "ira"])
            self.assertEqual(table, [[[SHORT, SPLIT], options], last])

    def test_each_word_is_followed_by_the_next(self):
        self.assertEqual(table_of(NEVER, ["bat", "ira", "bat", "bat"]),
                         [[[SHORT]], [[SHORT], [SHORT]], [[LONG]], [[LONG]]])
        self.assertEqual(table_of(MAY, ["o", "o", "to", "o"]),
                         [[[SHORT, LONG, None]], [[SHORT, LONG]], [[SHORT, LONG, None]], [[SHORT, LONG]]])
        self.assertEqual(table_of(MUST, ["u", "aeta", "aeta", "ta"]),
                         [[[None]], [[LONG], [None]], [[LONG], [SHORT]], [[SHORT]]])

    def test_a_word_that_comes_twice_stands_twice(self):
        self.assertEqual(table_of(MUST, ["ira"] * 3), [[[SHORT], [None]], [[SHORT], [None]], [[SHORT], [SHORT]]])

    def test_twelve_words_of_five_syllables(self):
        self.assertEqual(table_of(NEVER, ["patrapabus"] * 12), [[[SHORT, SPLIT], [SHORT], [SHORT], [LONG]]] * 12)
        table = table_of(MAY, ["potototuto"] * 12)
        self.assertEqual([len(word) for word in table], [5] * 12)


class Refused(unittest.TestCase):
    def test_any_thing_that_is_no_word_at_any_place(self):
        for number, thing in enumerate(NO_WORDS):
            with self.subTest(number=number):
                for words in ([thing], [thing, "a"], ["ira", thing], ["a", thing, "a"], ["a", "a", thing], [thing] * 2):
                    self.assertRaises(NoWord, table_of, MAY, words)

    def test_where_nothing_carries_no_word_is_one(self):
        self.assertRaises(NoWord, table_of, Tongue([]), ["a"])

    def test_refused_rows_stay_as_they_were(self):
        words = ["ira", ["a"], "ira"]
        self.assertRaises(NoWord, table_of, MAY, words)
        self.assertEqual(words, ["ira", ["a"], "ira"])


class Own(unittest.TestCase):
    def test_words_stay_as_they_were(self):
        words = ["patre", "ira"]
        table_of(MAY, words)
        self.assertEqual(words, ["patre", "ira"])

    def test_every_list_is_a_new_one(self):
        words = ["o", "o", "patre", "patre"]
        first = table_of(MAY, words)
        expected = table_of(MAY, words)
        lists = [first] + first + [options for word in first for options in word]
        self.assertEqual(len({id(kept) for kept in lists}), len(lists))
        for kept in reversed(lists):
            kept.append("x")
        self.assertEqual(table_of(MAY, words), expected)

    def test_kinds(self):
        for word in table_of(MAY, ["patre", "ira", "bat"]):
            self.assertIs(type(word), list)
            for options in word:
                self.assertIs(type(options), list)
                self.assertTrue(all(option is None or type(option) is tuple for option in options))


if __name__ == "__main__":
    unittest.main()
