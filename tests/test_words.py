"""Words [6]: what is a word, how it is read to units, and how any thing else is refused."""

import itertools
import unittest

from lilt.errors import NoWord
from lilt.tongues import Tongue
from lilt.words import is_word, options_of, syllables_of, units_of

LATIN = Tongue(["carry a e i o u", "one ae au oe", "begin tr", "split tr"])

NO_WORDS = (
    # texts
    "", " ", "t", "brr", "str", "A", "Ab", "aB", "a b", " a", "a ", "a-", "a.", "a1", "1", "-", "a'b", "a\n", "\na",
    "a\tb", "a\nb", "\t", "b" * 24, "a" * 25, "a" * 26, "ab" * 13, "b" * 24 + "a", "a" * 2000, "carry a",
    # other things
    None, True, False, 0, 1, -1, 97, 10 ** 60, [], ["a"], ["a", "b"], (), ("a",), ("a", "b"), {}, {"a": True}, {"a"},
    frozenset("a"), b"a", b"", 1.5, float("nan"), 1j, object(), LATIN, str, is_word, range(3), [[]], NotImplemented, ...,
    ValueError("a"),
)


class Unshown:
    """A thing that can't be shown, compared or looked up."""

    __hash__ = None

    def __repr__(self):
        raise RuntimeError

    def __eq__(self, other):
        raise RuntimeError

    def __len__(self):
        raise RuntimeError


class IsWord(unittest.TestCase):
    def test_words(self):
        for word in ("a", "ab", "ba", "patre", "aeiou", "strenuus", "bbbbbbbbbbbbbbbbbbbbbbba"):
            self.assertIs(is_word(LATIN, word), True)

    def test_one_to_twenty_four_letters(self):
        for many in range(1, 25):
            self.assertIs(is_word(LATIN, "a" * many), True)
            self.assertIs(is_word(LATIN, "b" * (many - 1) + "a"), True)
        for many in (0, 25, 26, 100):
            self.assertIs(is_word(LATIN, "a" * many), False)

    def test_one_letter_that_carries_anywhere(self):
        for at in range(24):
            self.assertIs(is_word(LATIN, "t" * at + "e" + "t" * (23 - at)), True)

    def test_what_carries_is_the_tongues_own(self):
        self.assertIs(is_word(Tongue(["carry r"]), "brr"), True)
        self.assertIs(is_word(Tongue(["carry r"]), "a"), False)
        self.assertIs(is_word(Tongue([]), "a"), False)

    def test_any_other_thing_is_none(self):
        for thing in NO_WORDS + (Unshown(),):
            self.assertIs(is_word(LATIN, thing), False)

    def test_every_sign_but_a_small_letter_makes_it_none(self):
        for number in range(128):
            sign = chr(number)
            small = "a" <= sign <= "z"
            for text in ("a" + sign, sign + "a", "a" + sign + "a"):
                self.assertIs(is_word(LATIN, text), small)


class Refused(unittest.TestCase):
    def test_any_thing_that_is_no_word(self):
        for number, thing in enumerate(NO_WORDS + (Unshown(),)):
            with self.subTest(number=number):
                self.assertRaises(NoWord, units_of, LATIN, thing)
                self.assertRaises(NoWord, syllables_of, LATIN, thing)
                self.assertRaises(NoWord, options_of, LATIN, thing, None)
                self.assertRaises(NoWord, options_of, LATIN, thing, "ira")
                self.assertRaises(NoWord, options_of, LATIN, thing, thing)

    def test_any_thing_that_follows_but_none(self):
        for number, thing in enumerate(NO_WORDS + (Unshown(),)):
            if thing is not None:
                with self.subTest(number=number):
                    self.assertRaises(NoWord, options_of, LATIN, "patre", thing)
        self.assertEqual(options_of(LATIN, "pa", None), [[(0, "u")]])

    def test_words_of_twenty_four_letters_are_taken(self):
        word = "ba" * 12
        self.assertEqual(units_of(LATIN, word), list(word))
        self.assertEqual(syllables_of(LATIN, word), [("b", "a", "", False)] * 12)
        self.assertEqual(options_of(LATIN, word, word), [[(0, "u")]] * 12)

    def test_things_stay_as_they_were(self):
        thing = ["a", {"b": ["c"]}]
        self.assertRaises(NoWord, options_of, LATIN, "patre", thing)
        self.assertRaises(NoWord, units_of, LATIN, thing)
        self.assertEqual(thing, ["a", {"b": ["c"]}])


class Units(unittest.TestCase):
    def test_letters_and_pairs(self):
        self.assertEqual(units_of(LATIN, "a"), ["a"])
        self.assertEqual(units_of(LATIN, "caesar"), ["c", "ae", "s", "a", "r"])
        self.assertEqual(units_of(LATIN, "poena"), ["p", "oe", "n", "a"])
        self.assertEqual(units_of(LATIN, "patrae"), ["p", "a", "t", "r", "ae"])
        self.assertEqual(units_of(LATIN, "ae"), ["ae"])

    def test_stops_are_one_letter_each(self):
        self.assertEqual(units_of(LATIN, "strra"), ["s", "t", "r", "r", "a"])

    def test_carriers_that_are_no_pair_are_two(self):
        self.assertEqual(units_of(LATIN, "eaio"), ["e", "a", "i", "o"])

    def test_read_from_the_left(self):
        tongue = Tongue(["carry a e", "one ae ea"])
        self.assertEqual(units_of(tongue, "aea"), ["ae", "a"])
        self.assertEqual(units_of(tongue, "eae"), ["ea", "e"])
        self.assertEqual(units_of(tongue, "aaea"), ["a", "ae", "a"])
        self.assertEqual(units_of(tongue, "aeae"), ["ae", "ae"])
        self.assertEqual(units_of(Tongue(["carry a", "one aa"]), "aaa"), ["aa", "a"])
        self.assertEqual(units_of(Tongue(["carry a", "one aa"]), "aaaa"), ["aa", "aa"])
        self.assertEqual(units_of(Tongue(["carry a e i", "one ei"]), "aei"), ["a", "ei"])

    def test_a_stop_parts_the_letters_of_a_pair(self):
        self.assertEqual(units_of(LATIN, "ate"), ["a", "t", "e"])

    def test_over_all_short_words_they_are_the_word_in_pairs_and_letters(self):
        tongue = Tongue(["carry a e", "one ae aa"])
        for letters in itertools.chain(*[itertools.product("aet", repeat=many) for many in range(1, 7)]):
            word = "".join(letters)
            if is_word(tongue, word):
                units = units_of(tongue, word)
                self.assertEqual("".join(units), word)
                for unit, behind in zip(units, units[1:] + [""]):
                    self.assertIn(unit, ("a", "e", "t", "ae", "aa"))
                    if len(unit) == 1:
                        self.assertNotIn(unit + behind[:1], ("ae", "aa"))

    def test_each_list_is_a_new_one(self):
        first = units_of(LATIN, "caesar")
        first.append("x")
        first[0] = "y"
        self.assertEqual(units_of(LATIN, "caesar"), ["c", "ae", "s", "a", "r"])


if __name__ == "__main__":
    unittest.main()
