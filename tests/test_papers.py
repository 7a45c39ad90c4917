"""Papers [21] [22]: one that holds for the price of a least mending, and those handed in held against each point."""

import copy
import random
import unittest

from lilt.errors import NoWord
from lilt.mending import mend
from lilt.metres import read_metre
from lilt.papers import holds, paper_of
from lilt.tongues import Tongue
from plain import NO_WORDS, START, paper_holds, right_mendings, some_mending, some_tongue

# a is short, e long, o either; no word runs into the next one.
ROWS = ["carry a e o", "long e", "either o"]
TONGUE = Tongue(ROWS)
MUST = Tongue(ROWS + ["run must"])
MAY = Tongue(ROWS + ["run may"])

# ba ba in u -, where be may stand for ba at 3: its one right mending is ba be.
TWO = (TONGUE, ["ba", "ba"], read_metre("u -"), [("ba", "be", 3)])
ONE_ON = (1, 0, 0)
TWO_PAPER = [[(0, START, 0)], [(0, START, 0), (1, START, 3)], [(0, ONE_ON, 0), (1, ONE_ON, 3)]]

PRICES = (None, -10 ** 59, -1, 0, 1, 2, 3, 4, 10 ** 59)


def prices_held(asked, paper):
    """All of some prices for which a paper holds."""
    return [price for price in PRICES if holds(*asked, paper, price)]


class Papers(unittest.TestCase):
    def hold(self, asked, paper, prices):
        """Hold a paper against the prices for which it must hold; the order of its tuples is free."""
        self.assertEqual(prices_held(asked, paper), prices)
        self.assertEqual(prices_held(asked, [list(reversed(layer)) for layer in paper]), prices)
        self.assertEqual([price for price in PRICES if paper_holds(*asked, paper, price)], prices)

    def none(self, asked, paper):
        self.hold(asked, paper, [])


class OneWord(Papers):
    def test_that_fits(self):
        asked = (TONGUE, ["ba"], read_metre("u"), [])
        self.hold(asked, [[(0, START, 0)], [(0, START, 0)]], [-10 ** 59, -1, 0])
        self.assertIs(holds(*asked, [[(0, START, 0)], [(0, START, 0)]], 0), True)
        self.assertIs(holds(*asked, [[(0, START, 0)], [(0, START, 0)]], 1), False)

    def test_that_does_not_fit(self):
        asked = (TONGUE, ["be"], read_metre("u"), [])
        self.hold(asked, [[(0, START, 0)], [(0, START, 0)]], list(PRICES))

    def test_with_a_price_too_great(self):
        self.none((TONGUE, ["ba"], read_metre("u"), []), [[(0, START, 0)], [(0, START, 1)]])
        self.none((TONGUE, ["be"], read_metre("u"), []), [[(0, START, 0)], [(0, START, 1)]])

    def test_with_a_price_too_small(self):
        asked = (TONGUE, ["ba"], read_metre("u"), [])
        self.hold(asked, [[(0, START, 0)], [(0, START, -1)]], [-10 ** 59, -1])
        self.hold(asked, [[(0, START, 0)], [(0, START, -10 ** 59)]], [-10 ** 59])
        self.hold((TONGUE, ["be"], read_metre("u"), []), [[(0, START, 0)], [(0, START, -7)]], list(PRICES))

    def test_without_the_state_stepped_to(self):
        self.none((TONGUE, ["ba"], read_metre("u"), []), [[(0, START, 0)], []])
        self.none((TONGUE, ["ba"], read_metre("u"), []), [[(0, START, 0)], [(0, (1, 0, 0), 0)]])

    def test_all_syllables_but_the_last(self):
        asked = (TONGUE, ["babo"], read_metre("ux/u-/xu"), [])
        layer = [(0, (0, 0, 1), 0), (0, (0, 1, 1), 0), (0, (0, 2, 1), 0)]
        self.hold(asked, [[(0, START, 0)], layer], [-10 ** 59, -1, 0])
        for number in range(3):
            self.none(asked, [[(0, START, 0)], layer[:number] + layer[number + 1:]])
        self.none(asked, [[(0, START, 0)], [(0, START, 0)]])

    def test_each_option_of_a_syllable(self):
        asked = (TONGUE, ["boba"], read_metre("u-/--"), [])
        layer = [(0, (0, 0, 1), 0), (0, (0, 1, 1), 0)]
        self.hold(asked, [[(0, START, 0)], layer], list(PRICES))
        self.none(asked, [[(0, START, 0)], layer[:1]])
        self.none(asked, [[(0, START, 0)], layer[1:]])

    def test_a_word_that_can_not_begin(self):
        asked = (TONGUE, ["beba"], read_metre("u u"), [])
        self.hold(asked, [[(0, START, 0)], []], list(PRICES))

    def test_a_cut_within_a_word(self):
        asked = (TONGUE, ["baba"], read_metre("u | u"), [])
        self.hold(asked, [[(0, START, 0)], []], list(PRICES))
        self.none((TONGUE, ["baba"], read_metre("u u |"), []), [[(0, START, 0)], []])
        self.hold((TONGUE, ["baba"], read_metre("u u |"), []), [[(0, START, 0)], [(0, ONE_ON, 0)]], [-10 ** 59, -1, 0])

    def test_a_last_syllable_of_which_one_option_fits(self):
        paper = [[(0, START, 0)], [(0, START, 0)]]
        self.hold((TONGUE, ["bo"], read_metre("-"), []), paper, [-10 ** 59, -1, 0])
        self.hold((TONGUE, ["bo"], read_metre("u"), []), paper, [-10 ** 59, -1, 0])
        self.hold((TONGUE, ["bo"], read_metre("u-"), []), paper, list(PRICES))

    def test_an_end_is_more_than_a_state_at_the_metre_s_end(self):
        asked = (TONGUE, ["baba"], read_metre("u"), [])
        self.hold(asked, [[(0, START, 0)], [(0, ONE_ON, 0)]], list(PRICES))

    def test_a_tuple_that_nothing_steps_to(self):
        asked = (TONGUE, ["ba"], read_metre("-u"), [])
        self.hold(asked, [[(0, START, 0)], [(0, START, 0)]], list(PRICES))
        self.hold(asked, [[(0, START, 0)], [(0, START, 0), (0, (0, 0, 1), 2)]], [-10 ** 59, -1, 0, 1, 2])
        self.hold(asked, [[(0, START, 0)], [(0, START, 0), (0, ONE_ON, -7)]], list(PRICES))


class TwoWords(Papers):
    def test_as_it_is(self):
        self.hold(TWO, TWO_PAPER, [-10 ** 59, -1, 0, 1, 2, 3])

    def test_a_layer_too_few_or_too_many(self):
        self.none(TWO, [])
        self.none(TWO, TWO_PAPER[:1])
        self.none(TWO, TWO_PAPER[:2])
        self.none(TWO, TWO_PAPER[1:])
        self.none(TWO, TWO_PAPER + [[]])
        self.none(TWO, [[]] + TWO_PAPER)
        self.none(TWO, TWO_PAPER + [TWO_PAPER[-1]])
        self.none(TWO, [[], [], []])

    def test_a_layer_too_few_or_too_many_where_there_is_no_end(self):
        asked = (TONGUE, ["be"], read_metre("u"), [])
        self.none(asked, [[(0, START, 0)]])
        self.none(asked, [[(0, START, 0)], [(0, START, 0)], []])

    def test_two_tuples_of_one_choice_and_state(self):
        for at in (1, 2):
            for told in TWO_PAPER[at]:
                for price in (told[2] - 1, told[2], told[2] + 1, 10 ** 59):
                    paper = copy.deepcopy(TWO_PAPER)
                    paper[at].append((told[0], told[1], price))
                    self.none(TWO, paper)

    def test_two_tuples_of_one_choice_and_state_of_which_nothing_comes(self):
        asked = (TONGUE, ["ba"], read_metre("u u"), [])
        self.hold(asked, [[(0, START, 0)], [(0, START, 0), (0, (2, 0, 0), 5)]], list(PRICES))
        self.none(asked, [[(0, START, 0)], [(0, START, 0), (0, (2, 0, 0), 5), (0, (2, 0, 0), 6)]])

    def test_a_choice_that_there_is_none_of(self):
        for at in (1, 2):
            for choice in (2, 3, -1, -2, 10 ** 59):
                for state in (START, ONE_ON, (2, 0, 0)):
                    paper = copy.deepcopy(TWO_PAPER)
                    paper[at].append((choice, state, 5))
                    self.none(TWO, paper)

    def test_a_choice_of_another_word(self):
        asked = (TONGUE, ["ba", "be"], read_metre("u -"), [("ba", "bo", 1)])
        paper = [[(0, START, 0)], [(0, START, 0), (1, START, 1)], [(0, ONE_ON, 0)]]
        self.hold(asked, paper, [-10 ** 59, -1, 0])
        self.none(asked, paper[:2] + [[(0, ONE_ON, 0), (1, ONE_ON, 9)]])
        self.none(asked, paper[:2] + [[(0, ONE_ON, 0), (1, (2, 0, 0), 9)]])

    def test_the_layer_0(self):
        first = (0, START, 0)
        for layer in ([], [(0, START, 1)], [(0, START, -1)], [(1, START, 0)], [(-1, START, 0)], [(0, ONE_ON, 0)],
                      [first, first], [first, (0, (2, 0, 0), 0)], [first, (1, START, 0)], [(0, (2, 0, 0), 0), first]):
            self.none(TWO, [layer] + TWO_PAPER[1:])

    def test_each_tuple_that_is_not_there(self):
        for at in (0, 1, 2):
            for number in range(len(TWO_PAPER[at])):
                paper = copy.deepcopy(TWO_PAPER)
                paper[at].pop(number)
                self.none(TWO, paper)

    def test_each_price_too_great(self):
        for at in (0, 1, 2):
            for number, (choice, state, price) in enumerate(TWO_PAPER[at]):
                for more in (1, 10 ** 58):
                    paper = copy.deepcopy(TWO_PAPER)
                    paper[at][number] = (choice, state, price + more)
                    self.none(TWO, paper)

    def test_a_price_too_small(self):
        # A lesser price on the way must be gone on with; in the last layer it only shows less.
        self.none(TWO, [TWO_PAPER[0], [(0, START, -1), (1, START, 3)], TWO_PAPER[2]])
        self.hold(TWO, [TWO_PAPER[0], [(0, START, -1), (1, START, 3)], [(0, ONE_ON, -1), (1, ONE_ON, 2)]],
                  [-10 ** 59, -1, 0, 1, 2])
        self.hold(TWO, [TWO_PAPER[0], TWO_PAPER[1], [(0, ONE_ON, 0), (1, ONE_ON, 2)]], [-10 ** 59, -1, 0, 1, 2])
        self.hold(TWO, [TWO_PAPER[0], TWO_PAPER[1], [(0, ONE_ON, -9), (1, ONE_ON, 3)]], [-10 ** 59, -1, 0, 1, 2, 3])
        self.hold(TWO, [TWO_PAPER[0], [(0, START, 0), (1, START, -9)], TWO_PAPER[2]], [-10 ** 59, -1, 0, 1, 2, 3])

    def test_a_tuple_that_nothing_steps_to(self):
        # From it, too, each step must be told: be, said behind one foot, leads to the metre's end.
        extra = [TWO_PAPER[0], TWO_PAPER[1] + [(1, ONE_ON, 7)], TWO_PAPER[2]]
        self.none(TWO, extra)
        self.none(TWO, extra[:2] + [extra[2] + [(0, (2, 0, 0), 7)]])
        self.none(TWO, extra[:2] + [extra[2] + [(0, (2, 0, 0), 7), (1, (2, 0, 0), 11)]])
        self.hold(TWO, extra[:2] + [extra[2] + [(0, (2, 0, 0), 7), (1, (2, 0, 0), 10)]], [-10 ** 59, -1, 0, 1, 2, 3])

    def test_for_none_and_for_a_price(self):
        asked = (TONGUE, ["ba", "ba"], read_metre("- -"), [("ba", "be", 3)])
        paper = [[(0, START, 0)], [(0, START, 0), (1, START, 3)], [(0, ONE_ON, 3), (1, ONE_ON, 6)]]
        self.assertEqual([price for price in range(10) if holds(*asked, paper, price)], list(range(7)))
        self.assertIs(holds(*asked, paper, None), False)
        asked = (TONGUE, ["ba", "ba"], read_metre("- -"), [])
        self.hold(asked, [[(0, START, 0)], [(0, START, 0)], []], list(PRICES))

    def test_steps_at_unlike_prices_to_one_state(self):
        asked = (TONGUE, ["ba", "ba"], read_metre("x -"), [("ba", "be", 3)])
        layers = [[(0, START, 0)], [(0, START, 0), (1, START, 3)]]
        self.hold(asked, layers + [[(0, ONE_ON, 0), (1, ONE_ON, 3)]], [-10 ** 59, -1, 0, 1, 2, 3])
        self.none(asked, layers + [[(0, ONE_ON, 3), (1, ONE_ON, 3)]])
        self.none(asked, layers + [[(0, ONE_ON, 0), (1, ONE_ON, 6)]])


class OneIntoTheNext(Papers):
    def test_must(self):
        asked = (MUST, ["ba", "a"], read_metre("u"), [])
        self.hold(asked, [[(0, START, 0)], [(0, START, 0)], [(0, START, 0)]], [-10 ** 59, -1, 0])
        self.none(asked, [[(0, START, 0)], [(0, START, 0)], [(0, ONE_ON, 0)]])

    def test_may(self):
        asked = (MAY, ["ba", "a"], read_metre("u"), [])
        self.hold(asked, [[(0, START, 0)], [(0, START, 0)], [(0, START, 0), (0, ONE_ON, 0)]], [-10 ** 59, -1, 0])
        self.none(asked, [[(0, START, 0)], [(0, START, 0)], [(0, START, 0)]])
        self.none(asked, [[(0, START, 0)], [(0, START, 0)], [(0, ONE_ON, 0)]])

    def test_never(self):
        asked = (TONGUE, ["ba", "a"], read_metre("u"), [])
        self.hold(asked, [[(0, START, 0)], [(0, START, 0)], [(0, ONE_ON, 0)]], list(PRICES))

    def test_by_the_choice_that_follows(self):
        asked = (MUST, ["ba", "be"], read_metre("-"), [("be", "e", 1)])
        paper = [[(0, START, 0)], [(0, START, 0)], [(1, START, 1)]]
        self.hold(asked, paper, [-10 ** 59, -1, 0, 1])
        asked = (MUST, ["ba", "be"], read_metre("u"), [("be", "e", 1)])
        paper = [[(0, START, 0)], [(0, START, 0)], [(0, ONE_ON, 0), (1, START, 1)]]
        self.hold(asked, paper, list(PRICES))
        self.none(asked, paper[:2] + [paper[2][:1]])
        self.none(asked, paper[:2] + [paper[2][1:]])

    def test_a_stop_that_goes_over(self):
        asked = (TONGUE, ["bab", "ba"], read_metre("u/x u"), [("ba", "a", 2)])
        paper = [[(0, START, 0)], [(0, START, 0)], [(0, ONE_ON, 0), (1, ONE_ON, 2)]]
        self.hold(asked, paper, [-10 ** 59, -1, 0])
        asked = (TONGUE, ["bab", "ba"], read_metre("u u"), [("ba", "a", 2)])
        self.hold(asked, paper[:2] + [[(1, ONE_ON, 2)]], [-10 ** 59, -1, 0, 1, 2])

    def test_the_end_from_which_no_move_leads_on(self):
        # The first is said to the metre's end, the second not at all, the third can't be.
        asked = (MUST, ["bab", "a", "a"], read_metre("u"), [])
        end = (1, 0, 0)
        paper = [[(0, START, 0)], [(0, START, 0)], [(0, end, 0)], [(0, end, 0)]]
        self.hold(asked, paper, list(PRICES))
        self.none(asked, paper[:3] + [[]])


class NoWords(Papers):
    def test_the_layer_0_alone(self):
        for text in ("u", "x/xx |"):
            for others in ([], [("ba", "be", 1)]):
                asked = (TONGUE, [], read_metre(text), others)
                self.hold(asked, [[(0, START, 0)]], list(PRICES))
                for paper in ([], [[]], [[], []], [[(0, START, 0)], []], [[(0, START, 1)]], [[(0, START, -1)]],
                              [[(1, START, 0)]], [[(0, ONE_ON, 0)]], [[(0, START, 0), (0, ONE_ON, 0)]],
                              [[(0, START, 0)], [(0, START, 0)]]):
                    self.none(asked, paper)
                self.assertEqual(paper_of(*asked), [[(0, START, 0)]])


class Refused(unittest.TestCase):
    def test_one_of_the_words_is_none(self):
        metre = read_metre("u")
        for thing in NO_WORDS:
            for words in ([thing], ["ba", thing], [thing, "ba"], ["ba", thing, "be"]):
                self.assertRaises(NoWord, paper_of, TONGUE, words, metre, [("ba", "be", 1)])
                for paper in ([], [[(0, START, 0)]], [[(0, START, 0)], [(0, START, 0)]], [[]] * 3):
                    for price in (None, 0):
                        self.assertRaises(NoWord, holds, TONGUE, words, metre, [], paper, price)


class PapersOf(unittest.TestCase):
    def hold(self, *asked):
        """Hold the paper of a row against its least mending; give both back."""
        mending = mend(*asked)
        paper = paper_of(*asked)
        price = None if mending is None else mending[0]
        self.assertIs(holds(*asked, paper, price), True)
        self.assertIs(paper_holds(*asked, paper, price), True)
        if mending is not None:
            self.assertIs(holds(*asked, paper, price - 1), True)
            self.assertIs(holds(*asked, paper, price + 1), False)
            self.assertIs(holds(*asked, paper, None), False)
        return mending, paper

    def test_by_hand(self):
        self.assertEqual(self.hold(*TWO)[0], (3, ["ba", "be"]))
        self.assertEqual(self.hold(TONGUE, ["ba", "ba"], read_metre("u u"), [])[0], (0, ["ba", "ba"]))
        self.assertEqual(self.hold(TONGUE, ["ba", "ba"], read_metre("- u -"), [])[0], None)
        self.assertEqual(self.hold(MUST, ["ba", "be"], read_metre("-"), [("be", "e", 1)])[0], (1, ["ba", "e"]))
        self.assertEqual(self.hold(TONGUE, [], read_metre("u"), [])[0], None)

    def test_eight_others(self):
        others = [("ba", word, price) for price, word in
                  enumerate(("be", "bo", "bab", "ab", "abab", "ba", "eba", "baba"), 1)]
        self.assertEqual(self.hold(TONGUE, ["ba", "ba"], read_metre("-u -u"), others)[0], (14, ["eba", "eba"]))
        self.assertEqual(self.hold(TONGUE, ["ba", "ba"], read_metre("--- -"), others)[0], None)

    def test_its_kinds(self):
        paper = paper_of(*TWO)
        self.assertIs(type(paper), list)
        self.assertEqual([type(layer) for layer in paper], [list] * 3)
        for layer in paper:
            for told in layer:
                self.assertEqual([type(part) for part in told], [int, tuple, int])

    def test_by_chance(self):
        chance = random.Random(21)
        met = {True: 0, False: 0}
        for number in range(300):
            tongue = some_tongue(chance)
            words, others, metre = some_mending(chance, tongue)
            mending = self.hold(tongue, words, metre, others)[0]
            met[mending is None] = met[mending is None] + 1
        self.assertGreater(min(met.values()), 50)

    def test_twelve_words_of_eight_others(self):
        word = "aeoae"
        others = [(word, "ao" * many, 9 - many) for many in range(1, 8)] + [(word, "o" * 24, 1)]
        metre = read_metre(" ".join(["u/x-/-u-/xxu-"] * 12))
        tongue = Tongue(["carry a e o", "either a e o", "run may"])
        paper = paper_of(tongue, [word] * 12, metre, others)
        price = mend(tongue, [word] * 12, metre, others)[0]
        self.assertIs(holds(tongue, [word] * 12, metre, others, paper, price), True)
        self.assertIs(holds(tongue, [word] * 12, metre, others, paper, price + 1), False)


def changed(chance, paper, states):
    """A paper with one thing in it changed, by a told source of chance."""
    layers = copy.deepcopy(paper)
    kind = chance.randrange(8)
    layer = chance.choice(layers)
    if kind == 0:
        layers.pop(chance.randrange(len(layers)))
    elif kind == 1:
        layers.insert(chance.randrange(len(layers) + 1), list(layer))
    elif kind in (2, 3) or not layer:
        layer.append((chance.randint(-1, 3), chance.choice(states), chance.randint(-1, 9)))
    elif kind == 4:
        layer.pop(chance.randrange(len(layer)))
    else:
        at = chance.randrange(len(layer))
        choice, state, price = layer[at]
        layer[at] = (choice, state, price + chance.choice((-2, -1, 1)))
    return layers


class AgainstThePoints(unittest.TestCase):
    def test_papers_changed_by_chance(self):
        chance = random.Random(22)
        met = {True: 0, False: 0}
        for number in range(250):
            tongue = some_tongue(chance)
            words, others, metre = some_mending(chance, tongue)
            asked = (tongue, words, metre, others)
            paper = paper_of(*asked)
            states = [START, (len(metre), 0, 0)] + [state for layer in paper for choice, state, price in layer]
            for change in range(6):
                handed = changed(chance, paper, states)
                if chance.random() < 0.4:
                    handed = changed(chance, handed or [[]], states)
                for price in (None, 0, chance.randint(1, 6)):
                    held = holds(*asked, handed, price)
                    self.assertIs(held, paper_holds(*asked, handed, price))
                    met[held] = met[held] + 1
        self.assertGreater(min(met.values()), 100)

    def test_a_paper_that_holds_shows_what_it_says(self):
        chance = random.Random(23)
        held = 0
        for number in range(150):
            tongue = some_tongue(chance)
            words, others, metre = some_mending(chance, tongue)
            asked = (tongue, words, metre, others)
            right = [price for price, taken in right_mendings(*asked)]
            paper = paper_of(*asked)
            for change in range(5):
                for price in (None, 0, 1, 2, 3, 4, 6):
                    if holds(*asked, paper, price):
                        held = held + 1
                        self.assertTrue(all(price is not None and cost >= price for cost in right))
                paper = changed(chance, paper_of(*asked), [START] + [told[1] for layer in paper for told in layer])
        self.assertGreater(held, 200)


class Own(unittest.TestCase):
    def test_what_was_handed_in_stays_as_it_was(self):
        for paper in (TWO_PAPER, TWO_PAPER[:2], [TWO_PAPER[0], [(2, START, 0)], []], [[], [(0, START, 4)] * 2, []]):
            words = ["ba", "ba"]
            others = [("ba", "be", 3)]
            handed = copy.deepcopy(paper)
            for price in (None, 3, 4):
                holds(TONGUE, words, read_metre("u -"), others, handed, price)
            paper_of(TONGUE, words, read_metre("u -"), others)
            self.assertEqual((words, others, handed), (["ba", "ba"], [("ba", "be", 3)], paper))

    def test_every_list_is_a_new_one(self):
        paper = paper_of(*TWO)
        for layer in paper:
            layer.append("x")
        paper.append("x")
        again = paper_of(*TWO)
        self.assertIs(holds(*TWO, again, 3), True)
        self.assertEqual(len({id(layer) for layer in again}), 3)


if __name__ == "__main__":
    unittest.main()
