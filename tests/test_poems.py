"""Poems held against forms [27]: their faults row by row, and what is refused ahead of them."""

import copy
import random
import unittest

from lilt.errors import LiltError, NoName, NoWord
from lilt.forms import plain_rows, read_form, times_of
from lilt.metres import read_metre
from lilt.poems import faults_of
from lilt.tongues import Tongue
from plain import NO_WORDS, poem_faults, some_form

# a is short, e and i long, o either; e rhymes with a and with i, a and i don't.
TONGUE = Tongue(["carry a e i o", "long e i", "either o", "alike a e", "alike e i"])
METRES = {"s": read_metre("u"), "l": read_metre("-"), "x": read_metre("x"), "xx": read_metre("x x"),
          "cut": read_metre("x | x"), "as": read_metre("u u")}


def faults(text, poem):
    return faults_of(TONGUE, METRES, read_form(text), poem)


class Metres(unittest.TestCase):
    def test_no_fault(self):
        self.assertEqual(faults("s -", [["ba"]]), [])
        self.assertEqual(faults("l -", [["be"]]), [])
        self.assertEqual(faults("s -; l -; xx -", [["bo"], ["bo"], ["ba", "be"]]), [])

    def test_a_row_without_reading(self):
        self.assertEqual(faults("s -", [["be"]]), [("metre", 0)])
        self.assertEqual(faults("s -; l -; s -", [["be"], ["be"], ["bi"]]), [("metre", 0), ("metre", 2)])
        self.assertEqual(faults("cut -", [["baba"]]), [("metre", 0)])
        self.assertEqual(faults("cut -", [["ba", "ba"]]), [])

    def test_each_row_by_its_own_metre(self):
        self.assertEqual(faults("l -; s -", [["ba"], ["ba"]]), [("metre", 0)])
        self.assertEqual(faults("as -; s -", [["baba"], ["baba"]]), [("metre", 1)])

    def test_a_row_without_words_has_none(self):
        self.assertEqual(faults("x -", [[]]), [("metre", 0)])
        self.assertEqual(faults("x -; x -", [["ba"], []]), [("metre", 1)])

    def test_the_metre_of_a_return(self):
        self.assertEqual(faults("s -; l -; as 1", [["ba"], ["be"], ["be"]]), [("metre", 2), ("again", 2, 0)])
        self.assertEqual(faults("s -; as 1", [["be"], ["be"]]), [("metre", 0), ("metre", 1)])


class Rows(unittest.TestCase):
    def test_too_many_and_too_few(self):
        self.assertEqual(faults("x -; x -", [["ba"]]), [("rows", 1)])
        self.assertEqual(faults("x -; x -", [["ba"]] * 3), [("rows", 3)])
        self.assertEqual(faults("x -", []), [("rows", 0)])

    def test_the_one_fault_of_rows_stands_alone(self):
        self.assertEqual(faults("s a; s a", [["be"], ["bo"], ["bi"]]), [("rows", 3)])
        self.assertEqual(faults("s -; as 1", [[]]), [("rows", 1)])

    def test_by_each_number_of_times(self):
        form = "s -; (; l -; l -; ) 1 3; s -"
        for times in range(6):
            poem = [["ba"]] + [["be"], ["be"]] * times + [["ba"]]
            self.assertEqual(faults(form, poem), [] if 1 <= times <= 3 else [("rows", 2 + 2 * times)])
        self.assertEqual(faults(form, [["ba"], ["be"], ["ba"]]), [("rows", 3)])

    def test_a_poem_without_rows(self):
        self.assertEqual(faults("(; x a; ) 0 2", []), [])
        self.assertEqual(faults("(; x a; as 1; ) 0 1", []), [])
        self.assertEqual(faults("(; x a; ) 1 2", []), [("rows", 0)])

    def test_forty_eight_rows(self):
        form = "(; " + "; ".join(["x A"] * 12) + "; ) 1 4"
        self.assertEqual(faults(form, [["bo"]] * 48), [])
        self.assertEqual(faults(form, [["bo"]] * 47), [("rows", 47)])
        self.assertEqual(faults(form, [["bo"]] * 47 + [["ba"]]), [("rhyme", 47, 0)])
        self.assertEqual(faults(form, [["bo"]] * 300), [("rows", 300)])


class Rhymes(unittest.TestCase):
    def test_two_rows(self):
        self.assertEqual(faults("x a; x a", [["ba"], ["ta"]]), [])
        self.assertEqual(faults("x a; x a", [["ba"], ["to"]]), [("rhyme", 1, 0)])
        self.assertEqual(faults("x a; x b", [["ba"], ["to"]]), [])
        self.assertEqual(faults("x a; x A", [["ba"], ["to"]]), [])
        self.assertEqual(faults("x -; x -", [["ba"], ["to"]]), [])

    def test_the_last_words(self):
        self.assertEqual(faults("xx a; xx a", [["ba", "bo"], ["te", "to"]]), [])
        self.assertEqual(faults("xx a; xx a", [["bo", "ba"], ["bo", "to"]]), [("rhyme", 1, 0)])

    def test_three_of_which_the_first_two_rhyme(self):
        self.assertEqual(faults("x a; x a; x a", [["ba"], ["be"], ["bi"]]), [("rhyme", 2, 0)])
        self.assertEqual(faults("x a; x a; x a", [["be"], ["ba"], ["bi"]]), [("rhyme", 2, 1)])
        self.assertEqual(faults("x a; x a; x a", [["ba"], ["be"], ["bo"]]), [("rhyme", 2, 0)])
        self.assertEqual(faults("x a; x a; x a", [["be"], ["ba"], ["te"]]), [])

    def test_the_first_of_those_that_do_not_rhyme(self):
        self.assertEqual(faults("x a; x a; x a; x a", [["be"], ["ba"], ["bo"], ["bi"]]),
                         [("rhyme", 2, 0), ("rhyme", 3, 1)])
        self.assertEqual(faults("x a; x b; x a; x b; x a", [["ba"], ["bo"], ["bo"], ["ba"], ["bo"]]),
                         [("rhyme", 2, 0), ("rhyme", 3, 1), ("rhyme", 4, 0)])

    def test_a_row_without_words_rhymes_with_none(self):
        self.assertEqual(faults("x a; x a", [[], ["ba"]]), [("metre", 0), ("rhyme", 1, 0)])
        self.assertEqual(faults("x a; x a", [["ba"], []]), [("metre", 1), ("rhyme", 1, 0)])
        self.assertEqual(faults("x a; x a", [[], []]), [("metre", 0), ("metre", 1), ("rhyme", 1, 0)])
        self.assertEqual(faults("x a; x b", [[], []]), [("metre", 0), ("metre", 1)])

    def test_a_small_letter_is_another_bond_each_time(self):
        self.assertEqual(faults("x a; (; x a; x a; ) 1 2", [["bo"], ["ba"], ["ta"], ["bi"], ["ti"]]), [])
        self.assertEqual(faults("x a; (; x a; x a; ) 1 2", [["bo"], ["ba"], ["ta"], ["bi"], ["to"]]),
                         [("rhyme", 4, 3)])

    def test_a_great_letter_is_one_bond(self):
        self.assertEqual(faults("x A; (; x A; ) 1 2; x A", [["bo"], ["to"], ["ro"], ["ba"]]), [("rhyme", 3, 0)])
        self.assertEqual(faults("x A; (; x A; ) 1 2; x A", [["bo"], ["to"], ["ba"], ["ro"]]),
                         [("rhyme", 2, 0), ("rhyme", 3, 2)])
        self.assertEqual(faults("(; x A; x b; ) 1 2", [["bo"], ["ba"], ["to"], ["bi"]]), [])

    def test_a_return_has_no_bond(self):
        self.assertEqual(faults("x a; as 1; x a", [["ba"], ["bo"], ["be"]]), [("again", 1, 0)])


class Again(unittest.TestCase):
    def test_the_same_words(self):
        self.assertEqual(faults("xx -; as 1", [["ba", "be"], ["ba", "be"]]), [])
        self.assertEqual(faults("xx -; as 1", [["ba", "be"], ["be", "ba"]]), [("again", 1, 0)])
        self.assertEqual(faults("xx -; as 1", [["ba", "be"], ["babe"]]), [("again", 1, 0)])
        self.assertEqual(faults("xx -; as 1", [["babe"], ["ba", "be"]]), [("again", 1, 0)])
        self.assertEqual(faults("x -; as 1", [[], []]), [("metre", 0), ("metre", 1)])

    def test_words_that_rhyme_are_not_the_same(self):
        self.assertEqual(faults("x a; as 1", [["ba"], ["ta"]]), [("again", 1, 0)])

    def test_several_returns_to_one_row(self):
        self.assertEqual(faults("x -; x -; as 1; as 2; as 1", [["ba"], ["be"], ["ba"], ["ba"], ["be"]]),
                         [("again", 3, 1), ("again", 4, 0)])

    def test_in_a_stanza_that_comes_twice_and_behind_it(self):
        form = "(; x -; as 1; ) 1 2; as 1"
        self.assertEqual(faults(form, [["ba"], ["ba"], ["be"], ["be"], ["be"]]), [])
        self.assertEqual(faults(form, [["ba"], ["ba"], ["be"], ["ba"], ["ba"]]), [("again", 3, 2), ("again", 4, 2)])
        self.assertEqual(faults(form, [["ba"], ["be"], ["be"], ["be"], ["be"]]), [("again", 1, 0)])
        self.assertEqual(faults(form, [["ba"], ["ba"], ["ba"]]), [])
        self.assertEqual(faults(form, [["ba"], ["ba"], ["be"]]), [("again", 2, 0)])

    def test_in_a_stanza_to_a_row_ahead(self):
        self.assertEqual(faults("x -; (; x -; as 1; ) 1 2", [["ba"], ["be"], ["ba"], ["bo"], ["bo"]]),
                         [("again", 4, 0)])


class Together(unittest.TestCase):
    def test_row_by_row_and_in_each_by_kind(self):
        poem = [["be"], ["ba"], ["bo", "ba"], ["bo"]]
        self.assertEqual(faults("s a; l a; s a; as 1", poem),
                         [("metre", 0), ("metre", 1), ("metre", 2), ("again", 3, 0)])
        poem = [["bo"], ["be"], ["bi"], ["ba"]]
        self.assertEqual(faults("l A; s A; as 1; l A", poem),
                         [("metre", 1), ("rhyme", 1, 0), ("again", 2, 0), ("metre", 3), ("rhyme", 3, 0)])

    def test_kinds(self):
        told = faults("s a; s a; as 1", [["ba"], ["bi"], ["bi"]])
        self.assertEqual(told, [("metre", 1), ("rhyme", 1, 0), ("metre", 2), ("again", 2, 0)])
        self.assertIs(type(told), list)
        self.assertEqual([[type(part) for part in fault] for fault in told],
                         [[str, int], [str, int, int], [str, int], [str, int, int]])
        self.assertIs(type(faults("x -", [])[0]), tuple)


class Refused(unittest.TestCase):
    def test_a_name_that_lacks(self):
        for text in ("no -", "x -; no -", "x -; (; no -; ) 1 1", "(; x -; ) 1 1; no a", "(; no -; ) 0 1; x -"):
            with self.assertRaises(NoName) as caught:
                faults(text, [["ba"]])
            self.assertIsInstance(caught.exception, LiltError)

    def test_a_name_that_lacks_in_a_stanza_that_comes_no_times(self):
        self.assertRaises(NoName, faults, "x -; (; no -; ) 0 2", [["ba"]])
        self.assertRaises(NoName, faults, "(; no -; ) 0 2", [])

    def test_names_ahead_of_words_and_of_rows(self):
        self.assertRaises(NoName, faults, "no -", [["b"]])
        self.assertRaises(NoName, faults, "no -", [[5]])
        self.assertRaises(NoName, faults, "no -", [["ba"]] * 7)

    def test_a_dict_without_names(self):
        self.assertRaises(NoName, faults_of, TONGUE, {}, read_form("x -"), [["ba"]])

    def test_names_that_nothing_asks_for(self):
        metres = dict(METRES, no=read_metre("u"))
        self.assertEqual(faults_of(TONGUE, metres, read_form("x -"), [["ba"]]), [])

    def test_a_return_is_no_name(self):
        metres = {"x": METRES["x"]}
        self.assertEqual(faults_of(TONGUE, metres, read_form("x -; as 1"), [["ba"], ["ba"]]), [])
        self.assertRaises(NoName, faults_of, TONGUE, metres, read_form("x -; as a"), [["ba"], ["ba"]])

    def test_what_is_no_word(self):
        for thing in NO_WORDS:
            for poem in ([[thing]], [["ba", thing]], [[thing, "ba"]], [["ba"], [thing]], [[], [thing], []]):
                with self.subTest(thing=thing, poem=poem):
                    self.assertRaises(NoWord, faults, "x -", poem)
                    self.assertRaises(NoWord, faults, "x a; x a", poem)

    def test_words_ahead_of_rows(self):
        self.assertRaises(NoWord, faults, "x -", [["ba"], ["b"]])
        self.assertRaises(NoWord, faults, "x -", [["ba"]] * 20 + [["ba", ""]])

    def test_no_metre_need_stand_by_the_name_of_the_word_as(self):
        self.assertEqual(faults("as b", [["baba"]]), [])


class Own(unittest.TestCase):
    def test_nothing_changed_and_a_new_list(self):
        metres = dict(METRES)
        form = read_form("s a; l a; as 1")
        poem = [["be"], ["bo"], ["ba"]]
        before = copy.deepcopy((metres, form, poem))
        told = faults_of(TONGUE, metres, form, poem)
        kept = list(told)
        self.assertGreater(len(told), 2)
        told.append("x")
        self.assertEqual((metres, form, poem), before)
        self.assertEqual(faults_of(TONGUE, metres, form, poem), kept)

    def test_nothing_changed_where_there_is_no_fault(self):
        poem = [["ba"]]
        faults("x -", poem).append("x")
        self.assertEqual(poem, [["ba"]])
        self.assertEqual(faults("x -", poem), [])


class AgainstTheWords(unittest.TestCase):
    PARTS = ("s a", "l a", "x b", "x A", "xx B", "cut -", "as a", "x a", "as 1", "as 2", "as 3")
    WORDS = ("ba", "be", "bi", "bo", "ta", "to", "baba", "bebo", "obo")

    def some_poem(self, chance, form):
        """A poem that has as many rows as the form most often, and rows that come again now and then."""
        plain = plain_rows(form, chance.choice(times_of(form)))
        poem = []
        for number in range(max(0, len(plain) + chance.choice((0, 0, 0, 0, 0, 1, -1)))):
            row = chance.choices(self.WORDS, k=chance.choice((0, 1, 1, 1, 1, 1, 2)))
            back = plain[number][2] if number < len(plain) else None
            poem.append(list(poem[back]) if back is not None and chance.random() < 0.7 else row)
        return poem

    def test_by_chance(self):
        chance = random.Random(27)
        met = {"none": 0, "rows": 0, "metre": 0, "rhyme": 0, "again": 0}
        for number in range(500):
            form = read_form("; ".join(some_form(chance, self.PARTS, 6)))
            poem = self.some_poem(chance, form)
            told = faults_of(TONGUE, METRES, form, poem)
            self.assertEqual(told, poem_faults(TONGUE, METRES, form, poem))
            for kind in {fault[0] for fault in told} or {"none"}:
                met[kind] = met[kind] + 1
        self.assertGreater(min(met.values()), 20, met)


if __name__ == "__main__":
    unittest.main()
