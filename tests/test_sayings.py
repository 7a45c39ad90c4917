"""Sayings [11], by their numbers and back, and what is said in them [12]."""

import copy
import itertools
import random
import unittest

from lilt.tables import many_sayings, number_of_saying, said_of, saying_at, table_of
from lilt.tongues import Tongue
from plain import LONG, SHORT, SPLIT, said_in, sayings_of, some_table

# patre ira, where e and i are either and a word's last carrier may go unsaid.
PATRE_IRA = [[[SHORT, SPLIT], [SHORT, LONG, None]], [[SHORT, LONG], [SHORT]]]
ALL_FOUR = [SHORT, LONG, SPLIT, None]


class Many(unittest.TestCase):
    def test_of_no_words_there_is_one(self):
        self.assertEqual(many_sayings([]), 1)

    def test_the_product_of_the_numbers_of_options(self):
        self.assertEqual(many_sayings([[[SHORT]]]), 1)
        self.assertEqual(many_sayings([[[None]]]), 1)
        self.assertEqual(many_sayings([[[SHORT, LONG, SPLIT, None]]]), 4)
        self.assertEqual(many_sayings(PATRE_IRA), 12)
        self.assertEqual(many_sayings([[[SHORT, LONG]] * 5]), 32)
        self.assertEqual(many_sayings([[[SHORT, LONG]]] * 5), 32)

    def test_sixty_syllables(self):
        self.assertEqual(many_sayings([[ALL_FOUR]] * 60), 4 ** 60)
        self.assertEqual(many_sayings([[[SHORT, LONG, SPLIT]] * 5] * 12), 3 ** 60)

    def test_it_is_a_whole_number(self):
        for table in ([], [[[SHORT]]], PATRE_IRA):
            self.assertIs(type(many_sayings(table)), int)


class ByNumber(unittest.TestCase):
    def test_of_no_words_the_empty_list(self):
        self.assertEqual(saying_at([], 0), [])
        self.assertEqual(number_of_saying([], []), 0)

    def test_all_twelve_by_hand(self):
        told = [
            [SHORT, SHORT, SHORT, SHORT],
            [SHORT, SHORT, LONG, SHORT],
            [SHORT, LONG, SHORT, SHORT],
            [SHORT, LONG, LONG, SHORT],
            [SHORT, None, SHORT, SHORT],
            [SHORT, None, LONG, SHORT],
            [SPLIT, SHORT, SHORT, SHORT],
            [SPLIT, SHORT, LONG, SHORT],
            [SPLIT, LONG, SHORT, SHORT],
            [SPLIT, LONG, LONG, SHORT],
            [SPLIT, None, SHORT, SHORT],
            [SPLIT, None, LONG, SHORT],
        ]
        for number, saying in enumerate(told):
            self.assertEqual(saying_at(PATRE_IRA, number), saying)
            self.assertEqual(number_of_saying(PATRE_IRA, saying), number)

    def test_the_table_s_own_order_holds(self):
        for options in itertools.permutations(ALL_FOUR):
            table = [[list(options)]]
            self.assertEqual([saying_at(table, number) for number in range(4)], [[option] for option in options])
            self.assertEqual([number_of_saying(table, [option]) for option in options], [0, 1, 2, 3])

    def test_one_saying(self):
        table = [[[LONG], [None]], [[SHORT]]]
        self.assertEqual(saying_at(table, 0), [LONG, None, SHORT])
        self.assertEqual(number_of_saying(table, [LONG, None, SHORT]), 0)

    def test_against_all_sayings_one_by_one(self):
        chance = random.Random(11)
        for number in range(150):
            table = some_table(chance)
            sayings = sayings_of(table)
            self.assertEqual(many_sayings(table), len(sayings))
            self.assertEqual([saying_at(table, at) for at in range(len(sayings))], sayings)
            self.assertEqual([number_of_saying(table, saying) for saying in sayings], list(range(len(sayings))))

    def test_first_and_last_of_sixty_syllables(self):
        table = [[ALL_FOUR]] * 60
        last = 4 ** 60 - 1
        self.assertEqual(saying_at(table, 0), [SHORT] * 60)
        self.assertEqual(saying_at(table, 1), [SHORT] * 59 + [LONG])
        self.assertEqual(saying_at(table, last), [None] * 60)
        self.assertEqual(saying_at(table, last - 4), [None] * 58 + [SPLIT, None])
        self.assertEqual(number_of_saying(table, [None] * 60), last)
        self.assertEqual(number_of_saying(table, [LONG] + [SHORT] * 59), 4 ** 59)
        for number in (4 ** 59 - 1, 4 ** 59, 123456789 ** 4, last // 3):
            self.assertEqual(number_of_saying(table, saying_at(table, number)), number)


class Said(unittest.TestCase):
    def test_nothing(self):
        self.assertEqual(said_of([], []), [])
        self.assertEqual(said_of([[[None]]], [None]), [])
        self.assertEqual(said_of([[[None]], [[None]]], [None, None]), [])

    def test_marks_and_words_ends(self):
        self.assertEqual(said_of(PATRE_IRA, [SHORT, LONG, LONG, SHORT]),
                         [("u", False), ("-", True), ("-", False), ("u", True)])
        self.assertEqual(said_of([[[SHORT]], [[LONG]]], [SHORT, LONG]), [("u", True), ("-", True)])
        self.assertEqual(said_of([[[SHORT], [LONG], [SHORT]]], [SHORT, LONG, SHORT]),
                         [("u", False), ("-", False), ("u", True)])

    def test_split_is_long(self):
        self.assertEqual(said_of(PATRE_IRA, [SPLIT, SHORT, SHORT, SHORT]),
                         [("-", False), ("u", True), ("u", False), ("u", True)])

    def test_where_the_last_one_is_not_said_no_other_ends_its_word(self):
        self.assertEqual(said_of(PATRE_IRA, [SHORT, None, SHORT, SHORT]), [("u", False), ("u", False), ("u", True)])
        self.assertEqual(said_of([[[None]], [[SHORT], [None]], [[LONG]]], [None, SHORT, None, LONG]),
                         [("u", False), ("-", True)])

    def test_against_the_words_of_the_document(self):
        chance = random.Random(12)
        for number in range(100):
            table = some_table(chance)
            for saying in sayings_of(table):
                self.assertEqual(said_of(table, saying), said_in(table, saying))

    def test_kinds(self):
        for mark, ends in said_of(PATRE_IRA, [SPLIT, None, SHORT, SHORT]):
            self.assertIs(type(mark), str)
            self.assertIs(type(ends), bool)


class Own(unittest.TestCase):
    def test_what_was_handed_in_stays_as_it_was(self):
        table = copy.deepcopy(PATRE_IRA)
        saying = [SPLIT, None, LONG, SHORT]
        many_sayings(table)
        saying_at(table, 7)
        number_of_saying(table, saying)
        said_of(table, saying)
        self.assertEqual(table, PATRE_IRA)
        self.assertEqual(saying, [SPLIT, None, LONG, SHORT])

    def test_every_list_is_a_new_one(self):
        table = [[[SHORT, LONG]]]
        saying_at(table, 1).append("x")
        said_of(table, [LONG]).append("x")
        self.assertEqual(saying_at(table, 1), [LONG])
        self.assertEqual(said_of(table, [LONG]), [("-", True)])
        self.assertEqual(table, [[[SHORT, LONG]]])
        saying_at([], 0).append("x")
        said_of([], []).append("x")
        self.assertEqual(saying_at([], 0), [])
        self.assertEqual(said_of([], []), [])

    def test_of_a_table_of_words(self):
        table = table_of(Tongue(["carry a e i", "either e i", "begin tr", "split tr", "run may"]), ["patre", "ira"])
        self.assertEqual(many_sayings(table), 12)
        self.assertEqual(saying_at(table, 10), [SPLIT, None, SHORT, SHORT])


if __name__ == "__main__":
    unittest.main()
