"""What the desk refuses [30]: each kind of refusal, which goes ahead of which, and that nothing changes then."""

import unittest

from lilt.desk import Desk
from lilt.errors import LiltError, NoForm, NoMetre, NoName, NoReading, NoRow, NoRule, NoWord
from plain import desk_of

# Two names are kept for a metre, two for a form, one of which asks for a metre that lacks.
ROWS = ("rule carry a e o", "rule long e", "rule either o", "metre m x/xx", "metre cut x | x", "form f m a; m a",
        "form g no -", "form h (; m -; ) 0 2", "other ba be 3")
NO_TEXTS = (None, 0, 5, True, False, 1.5, b"cut ba", ["cut ba"], ("cut", "ba"), {"cut": "ba"}, object(), str, [], (),
            {}, "cut ba\n", "cut\tba", "\n", "\t", "rule carry a\tb", "rule carry a\n", "metre m u\n", "ways ba\nbo",
            "\ncut ba", "form f m a;\tm a", "poem f ba / \n")

NO_ROWS = (
    # no such first word
    "", " ", "  ", "cuts ba", "Cut ba", "CUT ba", "cu ba", "ba", "ok", "rules carry a", "carry a", "word ba",
    "say cut ba",
    "cut,ba", "tongue", "mends m ba", "/", " / ", "poem/f ba",
    # a blank ahead
    " cut ba", " rule carry a", "  ways ba", " poem f ba / ba",
    # no part where one ought to be
    "rule", "metre", "metre m", "form", "form f", "other", "other ba", "other ba be", "cut", "ways", "count", "count m",
    "read", "read m", "read m 0", "mend", "mend m", "rhyme", "rhyme ba", "chains", "poem", "poem f", "within",
    "within f",
    # too many parts
    "cut ba be", "cut ba ", "cut  ba", "cut  ", "rhyme ba be bo", "rhyme ba  be", "rhyme  ba be", "rhyme ba be ",
    "other ba be 3 4", "other ba be 3 ", "other ba  be 3", "other  ba be 3", "other ba be  3", "within f f f",
    "within f f ", "within f  f", "within  f f",
    # prices
    "other ba be 0", "other ba be 00", "other ba be 01", "other ba be 003", "other ba be 1000000000",
    "other ba be 0000000001", "other ba be -1", "other ba be +1", "other ba be 1.", "other ba be x", "other ba be ",
    "other ba be 1_0", "other ba be 0x1", "other be 3 ba", "other 3 ba be",
    # numbers
    "read m 00 ba", "read m 01 ba", "read m -0 ba", "read m -1 ba", "read m +0 ba", "read m x ba", "read m  ba",
    "read m  0 ba", "read m ba 0", "read m 0x0 ba", "read m 1_0 ba", "read m 0. ba", "read m " + "1" * 61 + " ba",
    "read m " + "0" * 60 + " ba", "read m " + "0" * 61 + " ba", "read m " + "9" * 200 + " ba", "read 0 m ba",
)

NO_NAMES = (
    # no names
    "metre  u", "metre  ", "metre M u", "metre Mm u", "metre abcdefghi u", "metre m1 u", "metre m- u", "metre u/- u",
    "metre | u",
    "form  m -", "form F m -", "form abcdefghi m -", "form m; m -", "form ( m -", "count  ba", "count M ba",
    "read  0 ba",
    "mend  ba", "poem  ba", "poem  ", "poem F ba", "poem / ba", "within  f", "within  ", "within f ", "within f F",
    "within F f",
    # names by which nothing is kept
    "count no ba", "read no 0 ba", "mend no ba", "poem no ba", "within no f", "within f no", "within no no",
    "count mm ba",
    "poem ff ba",
    # metres' names and forms' are not the same
    "count f ba", "read f 0 ba", "mend f ba", "poem m ba", "within m f", "within f m",
    # the names in a form
    "poem g ba", "within g f", "within f g", "within g g",
)

NO_WORDS = (
    "cut ", "cut b", "cut Ba", "cut ba-", "cut /", "cut i", "cut ~", "cut !", "cut " + "a" * 25, "cut ba/be",
    "ways ", "ways  ", "ways ba ", "ways  ba", "ways ba  be", "ways b", "ways ba b", "ways b ba", "ways ba / be",
    "ways ba be B",
    "count m ", "count m  ba", "count m ba ", "count m ba b be", "count m ba  be",
    "read m 0 ", "read m 0  ba", "read m 0 ba ", "read m 0 b", "read m 0 ba b",
    "mend m ", "mend m  ba", "mend m ba ", "mend m b", "mend m ba b",
    "rhyme  ba", "rhyme ba ", "rhyme  ", "rhyme b ba", "rhyme ba b", "rhyme b b",
    "chains ", "chains b", "chains ba b", "chains ba  ba", "chains ba ", "chains ba / be",
    "other b ba 3", "other ba b 3", "other  ba 3", "other ba  3", "other b b 3", "other   3",
    "poem f ", "poem f  ", "poem f b", "poem f ba b / ba", "poem f ba / b", "poem f ba  be / ba", "poem f  ba / ba",
    # a parting at an end, or twice in a row
    "poem f /", "poem f / ", "poem f  / ", "poem f / ba", "poem f  / ba", "poem f ba /", "poem f ba / ",
    "poem f ba /  ",
    "poem f ba / / ba", "poem f ba /  / ba", "poem f ba / / / ba", "poem f ba / ba / ", "poem f ba / ba /",
    "poem f / ba / ba", "poem f /ba", "poem f ba/ba", "poem f ba /ba", "poem f ba/ ba", "poem f ba /  ba",
    "poem f ba  / ba",
)


def kept_in(desk):
    """What a desk answers to rows that ask for all that it keeps."""
    asked = ("cut babeo", "ways bo bo", "count m bo", "read m 0 bo bo", "count cut bo bo", "mend cut ba be",
             "rhyme ba ta",
             "chains ba be ta", "poem f ba / ta", "poem f ba / te", "poem h ba / ba", "within h h", "within f h")
    return [desk.say(row) for row in asked]


class Refused(unittest.TestCase):
    def refuse(self, rows, kind):
        desk = desk_of(ROWS)
        before = kept_in(desk)
        for row in rows:
            with self.subTest(row=row):
                with self.assertRaises(LiltError) as caught:
                    desk.say(row)
                self.assertIs(type(caught.exception), kind)
        self.assertEqual(kept_in(desk), before)

    def test_what_is_no_text(self):
        self.refuse(NO_TEXTS, NoRow)

    def test_no_rows(self):
        self.refuse(NO_ROWS, NoRow)

    def test_no_names(self):
        self.refuse(NO_NAMES, NoName)

    def test_no_words(self):
        self.refuse(NO_WORDS, NoWord)

    def test_no_readings(self):
        self.refuse(("read m 2 bo", "read m 1 ba", "read cut 0 ba", "read m " + "9" * 60 + " ba", "read m 0 ba ba ba",
                     "read cut 1 ba ba", "read m 4 bo bo", "read m 1" + "0" * 59 + " bo"), NoReading)

    def test_at_a_new_desk(self):
        desk = Desk()
        for row, kind in (("cut ba", NoWord), ("ways ba", NoWord), ("chains a", NoWord), ("rhyme a a", NoWord),
                          ("other ba be 1", NoWord), ("count m ba", NoName), ("read m 0 ba", NoName), ("mend m ba",
                          NoName),
                          ("poem f ba", NoName), ("within f f", NoName), ("rule long a", NoRule), ("", NoRow)):
            with self.subTest(row=row):
                self.assertRaises(kind, desk.say, row)

    def test_sixty_figures_are_a_number_and_sixty_one_none(self):
        desk = desk_of(ROWS)
        self.assertEqual(desk.say("read m 0 bo"), "bou / x")
        self.assertEqual(desk.say("read m 1 bo"), "bo- / x")
        self.assertRaises(NoReading, desk.say, "read m 2 bo")
        self.assertRaises(NoReading, desk.say, "read m " + "9" * 60 + " bo")
        self.assertRaises(NoRow, desk.say, "read m " + "9" * 61 + " bo")


class Fields(unittest.TestCase):
    def at_of(self, desk, row, kind):
        with self.assertRaises(kind) as caught:
            desk.say(row)
        self.assertIs(type(caught.exception), kind)
        return caught.exception.at

    def test_the_number_of_the_rule(self):
        desk = Desk()
        self.assertEqual(self.at_of(desk, "rule ", NoRule), 0)
        self.assertEqual(self.at_of(desk, "rule  carry a", NoRule), 0)
        desk.say("rule carry a e")
        for row in ("rule ", "rule carry", "rule carry b ", "rule  long a", "rule long b", "rule rule carry o",
                    "rule run",
                    "rule cut ba", "rule begin ab"):
            self.assertEqual(self.at_of(desk, row, NoRule), 1)
        desk.say("rule long e")
        self.assertEqual(self.at_of(desk, "rule run never may", NoRule), 2)

    def test_a_rule_that_makes_an_earlier_one_none(self):
        desk = desk_of(("rule carry a e", "rule begin tr", "rule alike b d"))
        self.assertEqual(self.at_of(desk, "rule carry r", NoRule), 1)
        self.assertEqual(self.at_of(desk, "rule carry o b", NoRule), 2)
        self.assertEqual(self.at_of(desk, "rule carry r b", NoRule), 1)
        # Nothing of what was refused is kept.
        self.assertRaises(NoWord, desk.say, "cut o")
        self.assertEqual(desk.say("cut atre"), "a.tre")
        self.assertEqual(desk.say("rule carry o"), "ok")
        self.assertEqual(desk.say("cut otro"), "o.tro")
        self.assertEqual(self.at_of(desk, "rule long t", NoRule), 4)

    def test_a_rule_told_too_early(self):
        desk = Desk()
        self.assertEqual(self.at_of(desk, "rule long e", NoRule), 0)
        self.assertEqual(desk.say("rule carry e"), "ok")
        self.assertEqual(desk.say("rule long e"), "ok")
        # begin tells stops of letters of which none carries as yet.
        self.assertEqual(desk_of(("rule begin ae",)).say("rule carry o"), "ok")

    def test_the_word_of_the_metre(self):
        desk = desk_of(ROWS)
        before = kept_in(desk)
        for row, at in (("metre m ", 0), ("metre m  ", 0), ("metre m  u", 0), ("metre m u ", 1), ("metre m u  u", 1),
                        ("metre m |", 0), ("metre m u | | u", 2), ("metre new u v", 1), ("metre m u/u", 0),
                        ("metre m " + "u " * 12 + "u", 12)):
            self.assertEqual(self.at_of(desk, row, NoMetre), at)
        self.assertEqual(kept_in(desk), before)
        self.assertRaises(NoName, desk.say, "count new ba")

    def test_the_part_of_the_form(self):
        desk = desk_of(ROWS)
        before = kept_in(desk)
        for row, at in (("form f ", 0), ("form f  ", 0), ("form f  m a", 0), ("form f m a ", 0), ("form f m a; ", 1),
                        ("form f m", 0), ("form f m a; as 2", 1), ("form new (; m a", 2), ("form f m a / m a", 0),
                        ("form f " + "m a; " * 12 + "m a", 12)):
            self.assertEqual(self.at_of(desk, row, NoForm), at)
        self.assertEqual(kept_in(desk), before)
        self.assertRaises(NoName, desk.say, "poem new ba")


class TwoWrongs(unittest.TestCase):
    """No row goes ahead of all; then the first from the left."""

    def test_in_one_row(self):
        desk = desk_of(ROWS)
        for row, kind in (
                # ahead of all
                ("other b b 0", NoRow), ("other b ba 1000000000", NoRow), ("read no 00 ba", NoRow), ("read M x b",
                NoRow),
                ("read no 0", NoRow), ("count no", NoRow), ("poem no", NoRow), ("metre M", NoRow), ("form F", NoRow),
                ("cut b b", NoRow), ("rhyme b", NoRow), ("within no", NoRow), ("within no no no", NoRow),
                ("read m " + "1" * 61 + " b", NoRow), ("cut b\n", NoRow), ("metre M \t", NoRow), ("rule x\n", NoRow),
                # a name ahead of a word, of a metre, of a form
                ("count no b", NoName), ("count no ", NoName), ("read no 0 b", NoName), ("read no 7 ba", NoName),
                ("mend no b", NoName), ("mend M  ", NoName), ("poem no b", NoName), ("poem no / ", NoName),
                ("poem g b", NoName), ("poem g ba / / b", NoName), ("metre M v", NoName), ("metre  ", NoName),
                ("form F (", NoName), ("form  ", NoName), ("metre abcdefghi u u/u", NoName),
                # a word ahead of a reading, and of the number of rows
                ("read m 9 b", NoWord), ("read m 9 ba b", NoWord), ("read cut 0 b", NoWord), ("read m 9 ", NoWord),
                ("poem f b", NoWord), ("poem f ba / ba / b", NoWord), ("poem h ba / ba / ba / b", NoWord)):
            with self.subTest(row=row):
                with self.assertRaises(LiltError) as caught:
                    desk.say(row)
                self.assertIs(type(caught.exception), kind)

    def test_a_row_that_was_refused_may_be_told_later(self):
        desk = Desk()
        self.assertRaises(NoWord, desk.say, "other ba be 3")
        self.assertRaises(NoRule, desk.say, "rule long e")
        for row in ("rule carry a e", "rule long e", "other ba be 3", "metre m -"):
            self.assertEqual(desk.say(row), "ok")
        self.assertEqual(desk.say("mend m ba"), "3")
        self.assertRaises(NoName, desk.say, "poem f ba")
        self.assertEqual(desk.say("form f no -"), "ok")
        self.assertRaises(NoName, desk.say, "poem f be")
        self.assertEqual(desk.say("metre no -"), "ok")
        self.assertEqual(desk.say("poem f be"), "yes")


if __name__ == "__main__":
    unittest.main()
