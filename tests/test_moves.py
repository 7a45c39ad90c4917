"""Moves [15]: how a metre goes on from a state by a mark, and where a cut lets it."""

import itertools
import random
import unittest

from lilt.metres import moves_of, read_metre
from plain import feet_in, said_rows, some_metre

METRE = read_metre("-uu/-- -x | u-")
BOTH = (False, True)


def feet_by_moves(metre, row):
    """The feet of a said row, told by walking the moves from the start to the end."""
    walks = [((0, 0, 0), [])]
    for mark, ends in row:
        longer = []
        for state, feet in walks:
            for pattern, reached in moves_of(metre, state, mark, ends):
                longer.append((reached, feet + [pattern] if reached[2] == 0 else feet))
        walks = longer
    return sorted(feet for state, feet in walks if state == (len(metre), 0, 0))


class Moves(unittest.TestCase):
    def test_at_a_slot_s_beginning_by_each_pattern(self):
        for ends in BOTH:
            self.assertEqual(moves_of(METRE, (0, 0, 0), "-", ends), [(0, (0, 0, 1)), (1, (0, 1, 1))])
            self.assertEqual(moves_of(METRE, (0, 0, 0), "u", ends), [])
            self.assertEqual(moves_of(METRE, (1, 0, 0), "-", ends), [(0, (1, 0, 1))])
            self.assertEqual(moves_of(METRE, (2, 0, 0), "u", ends), [(0, (2, 0, 1))])
            self.assertEqual(moves_of(METRE, (2, 0, 0), "-", ends), [])

    def test_within_a_pattern_by_the_chosen_one_alone(self):
        for ends in BOTH:
            self.assertEqual(moves_of(METRE, (0, 0, 1), "u", ends), [(0, (0, 0, 2))])
            self.assertEqual(moves_of(METRE, (0, 0, 1), "-", ends), [])
            self.assertEqual(moves_of(METRE, (0, 1, 1), "u", ends), [])
        alike = read_metre("uu/ux/xu/xxx")
        for pattern in (0, 1, 2):
            self.assertEqual(moves_of(alike, (0, pattern, 1), "u", False), [(pattern, (1, 0, 0))])
        self.assertEqual(moves_of(alike, (0, 3, 1), "u", False), [(3, (0, 3, 2))])
        self.assertEqual(moves_of(alike, (0, 1, 1), "-", False), [(1, (1, 0, 0))])
        self.assertEqual(moves_of(alike, (0, 0, 1), "-", False), [])

    def test_a_pattern_s_last_mark_reaches_the_next_slot(self):
        for ends in BOTH:
            self.assertEqual(moves_of(METRE, (0, 0, 2), "u", ends), [(0, (1, 0, 0))])
            self.assertEqual(moves_of(METRE, (0, 1, 1), "-", ends), [(1, (1, 0, 0))])
            self.assertEqual(moves_of(METRE, (2, 0, 1), "-", ends), [(0, (3, 0, 0))])

    def test_behind_a_cut_only_where_a_word_ends(self):
        for mark in "u-":
            self.assertEqual(moves_of(METRE, (1, 0, 1), mark, True), [(0, (2, 0, 0))])
            self.assertEqual(moves_of(METRE, (1, 0, 1), mark, False), [])

    def test_a_cut_asks_nothing_within_a_pattern(self):
        metre = read_metre("u/uu/xxx |")
        self.assertEqual(moves_of(metre, (0, 0, 0), "u", False), [(1, (0, 1, 1)), (2, (0, 2, 1))])
        self.assertEqual(moves_of(metre, (0, 0, 0), "u", True), [(0, (1, 0, 0)), (1, (0, 1, 1)), (2, (0, 2, 1))])
        self.assertEqual(moves_of(metre, (0, 2, 1), "-", False), [(2, (0, 2, 2))])
        self.assertEqual(moves_of(metre, (0, 2, 2), "-", False), [])
        self.assertEqual(moves_of(metre, (0, 2, 2), "-", True), [(2, (1, 0, 0))])

    def test_patterns_of_one_mark(self):
        metre = read_metre("x/u/-u/-")
        for ends in BOTH:
            self.assertEqual(moves_of(metre, (0, 0, 0), "u", ends), [(0, (1, 0, 0)), (1, (1, 0, 0))])
            self.assertEqual(moves_of(metre, (0, 0, 0), "-", ends), [(0, (1, 0, 0)), (2, (0, 2, 1)), (3, (1, 0, 0))])

    def test_from_the_end_no_move_leads_on(self):
        for text in ("u", "x |", "-uu/-- -x | u-", " ".join(["x"] * 12)):
            metre = read_metre(text)
            for mark, ends in itertools.product("u-", BOTH):
                self.assertEqual(moves_of(metre, (len(metre), 0, 0), mark, ends), [])

    def test_they_walk_just_the_feet(self):
        chance = random.Random(15)
        rows = said_rows(5)
        for number in range(40):
            metre = some_metre(chance)
            for row in chance.sample(rows, 40):
                self.assertEqual(feet_by_moves(metre, row), feet_in(metre, row))

    def test_kinds(self):
        for ends in BOTH:
            moves = moves_of(METRE, (0, 0, 0), "-", ends)
            self.assertIs(type(moves), list)
            for move in moves:
                self.assertIs(type(move), tuple)
                self.assertEqual([type(thing) for thing in move], [int, tuple])
                self.assertEqual([type(thing) for thing in move[1]], [int, int, int])

    def test_each_list_is_a_new_one(self):
        moves_of(METRE, (0, 0, 0), "-", True).append("x")
        moves_of(METRE, (3, 0, 0), "-", True).append("x")
        self.assertEqual(moves_of(METRE, (0, 0, 0), "-", True), [(0, (0, 0, 1)), (1, (0, 1, 1))])
        self.assertEqual(moves_of(METRE, (3, 0, 0), "-", True), [])


if __name__ == "__main__":
    unittest.main()
