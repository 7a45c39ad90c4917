"""The whole [2] [3]: the promise from told rows to readings, mendings, rhyme, poems and forms, and nothing changed."""

import copy
import itertools
import random
import unittest

from lilt.errors import NoReading
from lilt.feet import feet_at, many_feet, number_of_feet
from lilt.forms import plain_rows, read_form, times_of, written_form
from lilt.inside import form_within
from lilt.mending import choices_of, mend
from lilt.metres import moves_of, read_metre, written_metre
from lilt.papers import holds, paper_of
from lilt.poems import faults_of
from lilt.readings import foot_by_foot, lets_by, many_readings, number_of, reading_at
from lilt.rhymes import chains_of, end_of, rhymes
from lilt.tables import many_sayings, number_of_saying, said_of, saying_at, shown_as, table_of
from lilt.tongues import Tongue
from lilt.within import metre_within, read_twice
from lilt.words import options_of, syllables_of, units_of
from plain import poem_faults, readings_in, right_mendings, sayings_of, some_form, some_mending, some_tongue


class Promise(unittest.TestCase):
    def test_readings_are_counted_and_told_each_once(self):
        chance = random.Random(3)
        met = 0
        for number in range(150):
            tongue = some_tongue(chance)
            words, others, metre = some_mending(chance, tongue)
            table = table_of(tongue, words)
            told = [reading_at(table, metre, at) for at in range(many_readings(table, metre))]
            self.assertEqual(told, readings_in(table, metre))
            self.assertEqual([number_of(table, metre, reading) for reading in told], list(range(len(told))))
            self.assertRaises(NoReading, reading_at, table, metre, len(told))
            self.assertRaises(NoReading, reading_at, table, metre, -1)
            met = met + len(told)
        self.assertGreater(met, 100)

    def test_the_checker_lets_by_just_the_readings(self):
        chance = random.Random(4)
        for number in range(40):
            tongue = some_tongue(chance)
            words, others, metre = some_mending(chance, tongue)
            table = table_of(tongue, words)
            feet = [list(told) for told in itertools.product(*[range(len(patterns)) for patterns, cut in metre])]
            for reading in itertools.product(sayings_of(table)[:30], feet[:30]):
                try:
                    number_of(table, metre, reading)
                except NoReading:
                    self.assertIs(lets_by(table, metre, reading), False)
                else:
                    self.assertIs(lets_by(table, metre, reading), True)

    def test_the_least_price_with_its_paper(self):
        chance = random.Random(5)
        met = {"none": 0, "nothing": 0, "some": 0}
        for number in range(120):
            tongue = some_tongue(chance)
            words, others, metre = some_mending(chance, tongue)
            told = mend(tongue, words, metre, others)
            paper = paper_of(tongue, words, metre, others)
            right = right_mendings(tongue, words, metre, others)
            if told is None:
                self.assertEqual(right, [])
                self.assertIs(holds(tongue, words, metre, others, paper, None), True)
                met["none"] = met["none"] + 1
                continue
            self.assertEqual(told[0], min(price for price, taken in right))
            self.assertIn(told, right)
            self.assertEqual(told[0] == 0, many_readings(table_of(tongue, words), metre) > 0)
            self.assertIs(holds(tongue, words, metre, others, paper, told[0]), True)
            self.assertIs(holds(tongue, words, metre, others, paper, told[0] + 1), False)
            self.assertIs(holds(tongue, words, metre, others, paper, None), False)
            met["some" if told[0] else "nothing"] += 1
        self.assertGreater(min(met.values()), 10, met)

    def test_rhyme_by_chains_or_three_at_which_it_is_not(self):
        chance = random.Random(6)
        for number in range(100):
            likes = [" ".join(["alike"] + chance.sample("aeio", k=2)) for row in range(chance.randint(0, 3))]
            tongue = Tongue(["carry a e i o"] + likes)
            words = chance.choices(("ba", "be", "ti", "to", "bat", "tit"), k=chance.randint(0, 7))
            kind, told = chains_of(tongue, words)
            if kind == "broken":
                i, j, k = told
                met = [rhymes(tongue, words[one], words[other]) for one, other in ((i, j), (j, k), (i, k))]
                self.assertEqual(met, [True, True, False])
            else:
                where = {at: numbers for numbers in told for at in numbers}
                self.assertEqual(sorted(where), list(range(len(words))))
                for one, other in itertools.product(where, repeat=2):
                    self.assertEqual(rhymes(tongue, words[one], words[other]), where[one] == where[other])

    def test_a_poem_is_of_a_form_just_where_no_fault_is_told(self):
        chance = random.Random(7)
        tongue = Tongue(["carry a e o", "long e", "either o"])
        metres = {"m": read_metre("u"), "n": read_metre("x")}
        rows = (["ba"], ["be"], ["bo"], ["ta"])
        poems = [list(poem) for many in range(4) for poem in itertools.product(rows, repeat=many)]
        for number in range(8):
            form = read_form("; ".join(some_form(chance, ("m a", "n a", "n b", "n -", "as 1"), 3)))
            for poem in poems:
                self.assertEqual(faults_of(tongue, metres, form, poem), poem_faults(tongue, metres, form, poem))


# A call of each function that is handed a list, a dict or a tuple, with what is handed in.
TONGUE = Tongue(["carry a e o", "long e", "either o", "begin br", "split br", "run may"])
WORDS = ["bo", "abra", "ebo"]
TABLE = table_of(TONGUE, WORDS)
METRE = read_metre("x/xx x/xx | xx/x x/-")
READING = reading_at(TABLE, METRE, 3)
ROW = [("u", True), ("-", False), ("u", True), ("-", True), ("u", True)]
OTHERS = [("bo", "be", 2), ("abra", "bab", 3), ("bo", "ab", 1)]
PAPER = paper_of(TONGUE, WORDS, METRE, OTHERS)
FORM = read_form("m a; (; m a; as 2; ) 1 2; as 1")
METRES = {"m": METRE, "n": read_metre("x")}
POEM = [["bo"], WORDS, ["ba"], ["bo"]]
CALLS = (
    (units_of, TONGUE, "abra"), (syllables_of, TONGUE, "abra"), (options_of, TONGUE, "abra", "ebo"),
    (table_of, TONGUE, WORDS), (many_sayings, TABLE), (saying_at, TABLE, 5), (number_of_saying, TABLE, READING[0]),
    (said_of, TABLE, READING[0]), (shown_as, TONGUE, WORDS, READING[0]), (written_metre, METRE),
    (moves_of, METRE, (0, 0, 0), "u", True), (many_feet, METRE, ROW), (feet_at, METRE, ROW, 1),
    (number_of_feet, METRE, ROW, feet_at(METRE, ROW, 1)), (many_readings, TABLE, METRE), (reading_at, TABLE, METRE, 3),
    (number_of, TABLE, METRE, READING), (lets_by, TABLE, METRE, READING), (foot_by_foot, TABLE, METRE, READING),
    (choices_of, "bo", OTHERS), (mend, TONGUE, WORDS, METRE, OTHERS), (paper_of, TONGUE, WORDS, METRE, OTHERS),
    (holds, TONGUE, WORDS, METRE, OTHERS, PAPER, 0), (end_of, TONGUE, "abrab"), (chains_of, TONGUE, WORDS),
    (written_form, FORM), (times_of, FORM), (plain_rows, FORM, 2), (faults_of, TONGUE, METRES, FORM, POEM),
    (metre_within, METRE, METRES["n"]), (read_twice, METRE),
    (form_within, FORM, read_form("n -; n -; n -; as 1"), METRES),
)


def lists_in(thing):
    """Every list within what was given, itself too."""
    found = [thing] if isinstance(thing, list) else []
    if isinstance(thing, (list, tuple)):
        for part in thing:
            found.extend(lists_in(part))
    return found


class Unchanged(unittest.TestCase):
    def test_nothing_that_is_handed_in_is_changed(self):
        for call, *given in CALLS:
            with self.subTest(call=call.__name__):
                kept = [copy.deepcopy(thing) for thing in given if thing is not TONGUE]
                call(*given)
                self.assertEqual([thing for thing in given if thing is not TONGUE], kept)

    def test_the_same_answer_each_time_and_lists_of_their_own(self):
        for call, *given in CALLS:
            with self.subTest(call=call.__name__):
                kept = [copy.deepcopy(thing) for thing in given if thing is not TONGUE]
                told = call(*given)
                first = copy.deepcopy(told)
                known = [id(part) for part in lists_in(given)]
                own = lists_in(told)
                self.assertEqual([part for part in own if id(part) in known], [])
                self.assertEqual(len({id(part) for part in own}), len(own))
                for part in own:
                    part.append("changed")
                self.assertEqual(call(*given), first)
                self.assertEqual([thing for thing in given if thing is not TONGUE], kept)

    def test_what_a_tongue_was_told_is_its_own(self):
        rows = ["carry a e", "long e", "alike a e"]
        tongue = Tongue(rows)
        rows[1] = "long a"
        rows.append("carry b")
        rows.pop(0)
        self.assertEqual([tongue.weight("a"), tongue.weight("e"), tongue.carries("b")], ["u", "-", False])
        self.assertIs(tongue.alike("e", "a"), True)


if __name__ == "__main__":
    unittest.main()
