"""Options [9]: how each syllable of a word may be said, and what the next word does to the last one."""

import unittest

from lilt.tongues import Tongue
from lilt.words import options_of

SHORT = (0, "u")
LONG = (0, "-")
SPLIT = (1, "-")

# a is short, o either, u long; of the pairs ae is long, oa either and io short.
ROWS = ["carry a e i o u", "one ae oa io", "long u ae", "either o oa", "begin tr st", "split tr"]


def tongue_of(run):
    return Tongue(ROWS + ["run " + run])


NEVER = Tongue(ROWS)


class Alone(unittest.TestCase):
    def test_open_syllables_by_their_carrier(self):
        told = {"a": [SHORT], "io": [SHORT], "u": [LONG], "ae": [LONG], "o": [SHORT, LONG], "oa": [SHORT, LONG]}
        for carrier, options in told.items():
            self.assertEqual(options_of(NEVER, carrier, None), [options])
            self.assertEqual(options_of(NEVER, "str" + carrier, None), [options])
            self.assertEqual(options_of(NEVER, carrier + "be", None), [options, [SHORT]])

    def test_closed_syllables_are_long_whatever_their_carrier(self):
        for carrier in ("a", "io", "u", "ae", "o", "oa"):
            self.assertEqual(options_of(NEVER, carrier + "b", None), [[LONG]])
            self.assertEqual(options_of(NEVER, carrier + "bs", None), [[LONG]])
            self.assertEqual(options_of(NEVER, carrier + "rte", None), [[LONG], [SHORT]])

    def test_split_stands_behind_the_others(self):
        told = {"a": [SHORT, SPLIT], "u": [LONG, SPLIT], "ae": [LONG, SPLIT], "o": [SHORT, LONG, SPLIT],
                "oa": [SHORT, LONG, SPLIT]}
        for carrier, options in told.items():
            self.assertEqual(options_of(NEVER, "p" + carrier + "tre", None), [options, [SHORT]])

    def test_a_word_of_many(self):
        self.assertEqual(
            options_of(NEVER, "strotrastaerbeat", None),
            [[SHORT, LONG, SPLIT], [SHORT], [LONG], [SHORT], [LONG]],
        )

    def test_told_by_long_and_by_either_is_long(self):
        tongue = Tongue(["either a", "carry a", "long a"])
        self.assertEqual(options_of(tongue, "ta", None), [[LONG]])


class LastStop(unittest.TestCase):
    """The last stop of a word doesn't count ahead of a letter that carries."""

    def test_one_stop_does_not_close(self):
        told = {"a": [SHORT], "io": [SHORT], "u": [LONG], "ae": [LONG], "o": [SHORT, LONG], "oa": [SHORT, LONG]}
        for run in ("never", "may", "must"):
            for carrier, options in told.items():
                self.assertEqual(options_of(tongue_of(run), "b" + carrier + "t", "ira"), [options])
                self.assertEqual(options_of(tongue_of(run), "b" + carrier + "t", "aeta"), [options])

    def test_one_of_several_stops_leaves_it_closed(self):
        for word in ("ast", "ost", "aebst", "atr"):
            self.assertEqual(options_of(NEVER, word, "ira"), [[LONG]])

    def test_it_counts_ahead_of_a_stop_and_ahead_of_nothing(self):
        for follow in ("tira", "sa", None):
            self.assertEqual(options_of(NEVER, "bat", follow), [[LONG]])

    def test_only_of_the_last_syllable(self):
        self.assertEqual(options_of(NEVER, "artat", "ira"), [[LONG], [SHORT]])
        self.assertEqual(options_of(NEVER, "atrat", "ira"), [[SHORT, SPLIT], [SHORT]])

    def test_a_stop_that_is_told_by_none_is_still_said(self):
        self.assertEqual(options_of(tongue_of("must"), "at", "a"), [[SHORT]])


class Run(unittest.TestCase):
    def test_never(self):
        for tongue in (NEVER, tongue_of("never")):
            self.assertEqual(options_of(tongue, "ira", "ira"), [[SHORT], [SHORT]])
            self.assertEqual(options_of(tongue, "iro", "ae"), [[SHORT], [SHORT, LONG]])
            self.assertEqual(options_of(tongue, "iru", "a"), [[SHORT], [LONG]])

    def test_may(self):
        tongue = tongue_of("may")
        self.assertEqual(options_of(tongue, "ira", "ira"), [[SHORT], [SHORT, None]])
        self.assertEqual(options_of(tongue, "iro", "ae"), [[SHORT], [SHORT, LONG, None]])
        self.assertEqual(options_of(tongue, "iroa", "ae"), [[SHORT], [SHORT, LONG, None]])
        self.assertEqual(options_of(tongue, "iru", "a"), [[SHORT], [LONG, None]])
        self.assertEqual(options_of(tongue, "patre", "ira"), [[SHORT, SPLIT], [SHORT, None]])

    def test_must(self):
        tongue = tongue_of("must")
        for word in ("ira", "iro", "iru", "irae", "iroa"):
            self.assertEqual(options_of(tongue, word, "ira"), [[SHORT], [None]])
        self.assertEqual(options_of(tongue, "patre", "ira"), [[SHORT, SPLIT], [None]])

    def test_a_word_of_one_syllable(self):
        self.assertEqual(options_of(tongue_of("must"), "a", "a"), [[None]])
        self.assertEqual(options_of(tongue_of("may"), "stro", "ae"), [[SHORT, LONG, None]])

    def test_not_where_the_word_ends_with_a_stop(self):
        for run in ("may", "must"):
            self.assertEqual(options_of(tongue_of(run), "irat", "ira"), [[SHORT], [SHORT]])
            self.assertEqual(options_of(tongue_of(run), "irast", "ira"), [[SHORT], [LONG]])

    def test_not_ahead_of_a_stop_nor_of_nothing(self):
        for run in ("may", "must"):
            self.assertEqual(options_of(tongue_of(run), "ira", "tira"), [[SHORT], [SHORT]])
            self.assertEqual(options_of(tongue_of(run), "ira", None), [[SHORT], [SHORT]])

    def test_of_several_run_rows_the_last_holds(self):
        tongue = Tongue(ROWS + ["run must", "run may"])
        self.assertEqual(options_of(tongue, "ira", "ira"), [[SHORT], [SHORT, None]])


class Form(unittest.TestCase):
    def test_options_are_tuples_of_a_whole_number_and_a_text(self):
        for options in options_of(NEVER, "potrust", "ira"):
            self.assertIs(type(options), list)
            for option in options:
                self.assertIs(type(option), tuple)
                self.assertEqual([type(thing) for thing in option], [int, str])

    def test_each_list_is_a_new_one_and_no_two_are_one(self):
        for run in ("never", "may", "must"):
            tongue = tongue_of(run)
            first = options_of(tongue, "batara", "ira")
            expected = [list(options) for options in first]
            self.assertEqual(len({id(options) for options in first}), 3)
            for options in first:
                options.append("x")
                options[0] = "y"
            first.append("z")
            self.assertEqual(options_of(tongue, "batara", "ira"), expected)


if __name__ == "__main__":
    unittest.main()
