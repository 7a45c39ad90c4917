"""The text of a saying of words [13]."""

import unittest

from lilt.errors import NoWord
from lilt.tables import many_sayings, saying_at, shown_as, table_of
from lilt.tongues import Tongue
from plain import LONG, SHORT, SPLIT

LATIN = Tongue(["carry a e i o u", "one ae", "long ae", "either e i o", "begin tr st str", "split tr gn kst",
                "run may"])


class Shown(unittest.TestCase):
    def test_the_document_s_own(self):
        words = ["patre", "ira"]
        self.assertEqual(shown_as(LATIN, words, [SHORT, LONG, LONG, SHORT]), "pau.tre- i-.rau")
        self.assertEqual(shown_as(LATIN, words, [SPLIT, LONG, LONG, SHORT]), "pat-.re- i-.rau")
        self.assertEqual(shown_as(LATIN, words, [SHORT, None, SHORT, SHORT]), "pau.(tre) iu.rau")

    def test_no_words(self):
        self.assertEqual(shown_as(LATIN, [], []), "")

    def test_one_syllable(self):
        self.assertEqual(shown_as(LATIN, ["a"], [SHORT]), "au")
        self.assertEqual(shown_as(LATIN, ["tu"], [SHORT]), "tuu")
        self.assertEqual(shown_as(LATIN, ["stans"], [LONG]), "stans-")
        self.assertEqual(shown_as(LATIN, ["ae"], [LONG]), "ae-")
        self.assertEqual(shown_as(LATIN, ["te", "a"], [None, SHORT]), "(te) au")

    def test_head_carrier_and_tail(self):
        self.assertEqual(shown_as(LATIN, ["caesar"], [LONG, LONG]), "cae-.sar-")
        self.assertEqual(shown_as(LATIN, ["arma", "monstrat"], [LONG, SHORT, LONG, LONG]), "ar-.mau mon-.strat-")
        self.assertEqual(shown_as(LATIN, ["bat", "ira"], [SHORT, SHORT, SHORT]), "batu iu.rau")

    def test_only_one_stop_stays_where_it_is_split(self):
        self.assertEqual(shown_as(LATIN, ["akstu"], [SHORT, SHORT]), "au.kstuu")
        self.assertEqual(shown_as(LATIN, ["akstu"], [SPLIT, SHORT]), "ak-.stuu")
        self.assertEqual(shown_as(LATIN, ["agna"], [SPLIT, SHORT]), "ag-.nau")

    def test_several_split_in_one_word(self):
        self.assertEqual(shown_as(LATIN, ["patragnas"], [SHORT, SHORT, LONG]), "pau.trau.gnas-")
        self.assertEqual(shown_as(LATIN, ["patragnas"], [SPLIT, SHORT, LONG]), "pat-.rau.gnas-")
        self.assertEqual(shown_as(LATIN, ["patragnas"], [SHORT, SPLIT, LONG]), "pau.trag-.nas-")
        self.assertEqual(shown_as(LATIN, ["patragnas"], [SPLIT, SPLIT, LONG]), "pat-.rag-.nas-")

    def test_split_ahead_of_one_that_is_not_said(self):
        self.assertEqual(shown_as(LATIN, ["patre", "ira"], [SPLIT, None, SHORT, SHORT]), "pat-.(re) iu.rau")

    def test_several_words_that_are_not_said(self):
        self.assertEqual(shown_as(LATIN, ["a", "ae", "ita"], [None, None, LONG, SHORT]), "(a) (ae) i-.tau")

    def test_all_sayings_of_two_words(self):
        words = ["etra", "ae"]
        table = table_of(LATIN, words)
        shown = [shown_as(LATIN, words, saying_at(table, number)) for number in range(many_sayings(table))]
        self.assertEqual(shown, ["eu.trau ae-", "eu.(tra) ae-", "e-.trau ae-", "e-.(tra) ae-", "et-.rau ae-",
                                 "et-.(ra) ae-"])

    def test_its_letters_are_those_of_the_words(self):
        words = ["patragno", "akstae", "e", "ostregni"]
        table = table_of(LATIN, words)
        for number in range(many_sayings(table)):
            saying = saying_at(table, number)
            shown = [word.split(".") for word in shown_as(LATIN, words, saying).split(" ")]
            bare = ["".join(part[1:-1] if part[0] == "(" else part[:-1] for part in word) for word in shown]
            marks = [None if part[0] == "(" else part[-1] for word in shown for part in word]
            self.assertEqual(bare, words)
            self.assertEqual(marks, [option and option[1] for option in saying])


class RefusedAndOwn(unittest.TestCase):
    def test_what_is_no_word(self):
        for thing in ("", "t", "A", "a b", None, 3, ["a"]):
            self.assertRaises(NoWord, shown_as, LATIN, [thing], [SHORT])
            self.assertRaises(NoWord, shown_as, LATIN, ["a", thing], [SHORT, SHORT])

    def test_what_was_handed_in_stays_as_it_was(self):
        words = ["patre", "ira"]
        saying = [SPLIT, None, LONG, SHORT]
        self.assertIs(type(shown_as(LATIN, words, saying)), str)
        self.assertEqual(words, ["patre", "ira"])
        self.assertEqual(saying, [SPLIT, None, LONG, SHORT])


if __name__ == "__main__":
    unittest.main()
