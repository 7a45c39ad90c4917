"""The desk [30]: what it is told, and the text of each answer."""

import random
import unittest

from lilt.desk import Desk
from lilt.errors import LiltError
from lilt.feet import many_feet
from lilt.forms import read_form
from lilt.inside import form_within
from lilt.mending import mend
from lilt.metres import read_metre, written_metre
from lilt.poems import faults_of
from lilt.readings import many_readings, reading_at
from lilt.rhymes import rhymes
from lilt.tables import many_sayings, shown_as, table_of
from lilt.tongues import Tongue
from plain import desk_of, some_form, some_mending, some_metre

# ae and au are long, o is either, all others short.
RULES = ("carry a e i o u", "one ae au", "long ae au", "either o", "begin tr st str", "split tr", "run may",
         "alike ae e")


def desk_with(*rows):
    """A desk that was told the rules and then these rows."""
    return desk_of(["rule " + rule for rule in RULES] + list(rows))


class Told(unittest.TestCase):
    def test_each_is_answered_with_ok(self):
        desk = Desk()
        for row in ("rule carry a e", "rule long e", "metre m u -", "form f m a; m a", "form g no a", "other ba be 3"):
            self.assertEqual(desk.say(row), "ok")

    def test_a_rule_is_all_that_follows_the_blank(self):
        desk = Desk()
        self.assertEqual(desk.say("rule carry a e i"), "ok")
        self.assertEqual(desk.say("cut baetri"), "ba.et.ri")
        self.assertEqual(desk.say("rule one ae"), "ok")
        self.assertEqual(desk.say("cut baetri"), "baet.ri")
        self.assertEqual(desk.say("rule begin tr"), "ok")
        self.assertEqual(desk.say("cut baetri"), "bae.tri")

    def test_the_last_run_row_holds(self):
        desk = desk_with()
        self.assertEqual(desk.say("ways ba a"), "2")
        desk.say("rule run must")
        self.assertEqual(desk.say("ways ba a"), "1")
        desk.say("rule run may")
        self.assertEqual(desk.say("ways ba a"), "2")

    def test_a_metre_told_again(self):
        desk = desk_with("metre m u")
        self.assertEqual(desk.say("count m ba"), "1")
        self.assertEqual(desk.say("metre m -"), "ok")
        self.assertEqual(desk.say("count m ba"), "0")
        self.assertEqual(desk.say("metre m u/-uu/-- | x"), "ok")
        self.assertEqual(desk.say("read m 0 ba bo"), "bau bou / u x")

    def test_a_form_told_again(self):
        desk = desk_with("metre m u", "form f m a; m a")
        self.assertEqual(desk.say("poem f ba / be"), "rhyme 1 0")
        self.assertEqual(desk.say("form f m a; m b"), "ok")
        self.assertEqual(desk.say("poem f ba / be"), "yes")
        self.assertEqual(desk.say("metre m -"), "ok")
        self.assertEqual(desk.say("poem f ba / be"), "metre 0")

    def test_metres_and_forms_have_names_of_their_own(self):
        desk = desk_with("metre m u", "form m m -")
        self.assertEqual(desk.say("count m ba"), "1")
        self.assertEqual(desk.say("poem m ba"), "yes")

    def test_names_of_one_to_eight_letters_and_the_words_of_rows(self):
        desk = desk_with()
        for name in ("m", "abcdefgh", "metre", "as", "poem", "z"):
            self.assertEqual(desk.say("metre " + name + " u"), "ok")
            self.assertEqual(desk.say("form " + name + " " + name + " -"), "ok")
            self.assertEqual(desk.say("count " + name + " ba"), "1")
            self.assertEqual(desk.say("poem " + name + " ba"), "yes")

    def test_others_one_more_each(self):
        desk = desk_with("metre l -", "other ba bae 7")
        self.assertEqual(desk.say("mend l ba"), "7")
        self.assertEqual(desk.say("other ba bab 3"), "ok")
        self.assertEqual(desk.say("mend l ba"), "3")
        self.assertEqual(desk.say("other ba bau 5"), "ok")
        self.assertEqual(desk.say("mend l ba"), "3")
        self.assertEqual(desk.say("other ba ba 1"), "ok")
        self.assertEqual(desk.say("mend l ba"), "3")

    def test_prices_of_one_figure_and_of_nine(self):
        desk = desk_with("metre l -", "other ba bab 999999999")
        self.assertEqual(desk.say("mend l ba"), "999999999")
        desk.say("other ba bab 100000000")
        self.assertEqual(desk.say("mend l ba"), "100000000")
        desk.say("other ba bab 1")
        self.assertEqual(desk.say("mend l ba"), "1")

    def test_two_desks(self):
        one, other = desk_with("metre m u", "form f m -", "other bae ba 2"), desk_with("metre m -")
        self.assertEqual([one.say("count m ba"), other.say("count m ba")], ["1", "0"])
        self.assertEqual([one.say("mend m bae"), other.say("mend m ba")], ["2", "none"])
        self.assertRaises(LiltError, other.say, "poem f ba")


class Words(unittest.TestCase):
    def test_cut(self):
        desk = desk_with()
        for word, cut in (("a", "a"), ("ba", "ba"), ("patre", "pa.tre"), ("astra", "a.stra"), ("caesa", "cae.sa"),
                          ("aea", "ae.a"), ("artma", "art.ma"), ("strast", "strast"), ("a" * 24, ".".join("a" * 24))):
            self.assertEqual(desk.say("cut " + word), cut)

    def test_ways(self):
        desk = desk_with()
        for words, ways in (("ba", "1"), ("bo", "2"), ("bo bo", "4"), ("patre", "2"), ("patre ira", "4"), ("bab", "1"),
                            ("o o", "6"), ("bo " * 11 + "bo", "4096"), ("o o o o o o o o o o o o", str(3 ** 11 * 2))):
            self.assertEqual(desk.say("ways " + words), ways)

    def test_a_number_of_ways_of_more_than_twenty_figures(self):
        desk = desk_with("metre m x")
        words = " ".join(["bobobobobo"] * 12)
        self.assertEqual(desk.say("ways " + words), str(2 ** 60))
        self.assertEqual(desk.say("count m " + words), "0")


class Readings(unittest.TestCase):
    def test_count(self):
        desk = desk_with("metre m u/-u u/uu", "metre l -")
        self.assertEqual(desk.say("count m patre ira"), "3")
        self.assertEqual(desk.say("count l patre ira"), "0")
        self.assertEqual(desk.say("count l bo"), "1")

    def test_read(self):
        desk = desk_with("metre m u/-u u/uu", "metre three u u u", "metre four uu u u", "metre cut -x | x/xx")
        self.assertEqual(desk.say("read m 0 patre ira"), "pau.(tre) iu.rau / u uu")
        self.assertEqual(desk.say("read m 1 patre ira"), "pat-.reu iu.rau / -u uu")
        self.assertEqual(desk.say("read m 2 patre ira"), "pat-.(re) iu.rau / -u u")
        self.assertEqual(desk.say("read three 0 patre ira"), "pau.(tre) iu.rau / u u u")
        self.assertEqual(desk.say("read four 0 patre ira"), "pau.treu iu.rau / uu u u")
        self.assertEqual(desk.say("read cut 0 patre ira"), "pat-.reu iu.rau / -x xx")

    def test_a_great_number(self):
        desk = desk_with("metre m " + " ".join(["x/xx/xxx/xxxx"] * 12))
        words = " ".join(["bobobo"] * 8)
        many = int(desk.say("count m " + words))
        self.assertEqual(many, 2 ** 24 * many_feet(read_metre(" ".join(["x/xx/xxx/xxxx"] * 12)), [("u", True)] * 24))
        self.assertEqual(desk.say(f"read m 0 {words}")[:10], "bou.bou.bo")
        self.assertEqual(desk.say(f"read m {many - 1} {words}")[:10], "bo-.bo-.bo")
        self.assertRaises(LiltError, desk.say, f"read m {many} {words}")


class Mending(unittest.TestCase):
    def test_the_price_of_a_least_one(self):
        desk = desk_with("metre m -u -", "other tua mae 3", "other bona mala 1", "other tua caesa 1")
        self.assertEqual(desk.say("mend m bona mae"), "0")
        self.assertEqual(desk.say("mend m bona tua"), "3")
        self.assertEqual(desk.say("mend m mala tua"), "none")
        self.assertEqual(desk.say("mend m tua"), "none")

    def test_without_others(self):
        desk = desk_with("metre m u")
        self.assertEqual(desk.say("mend m ba"), "0")
        self.assertEqual(desk.say("mend m bae"), "none")


class Rhymes(unittest.TestCase):
    def test_two_words(self):
        desk = desk_with()
        for words, told in (("mae re", "yes"), ("re mae", "yes"), ("caest est", "yes"), ("ba ba", "yes"),
                            ("ba be", "no"), ("ba bat", "no"), ("bat tat", "yes"), ("mae mau", "no")):
            self.assertEqual(desk.say("rhyme " + words), told)

    def test_chains(self):
        desk = desk_with()
        for words, told in (("ba", "ba"), ("ba ta", "ba ta"), ("ba be", "ba / be"),
                            ("mae ira re mala", "mae re / ira mala"),
                            ("bo ba ti ta to bo", "bo to bo / ba ta / ti"), ("ba ba", "ba ba")):
            self.assertEqual(desk.say("chains " + words), told)

    def test_chains_broken(self):
        desk = desk_with("rule alike e i")
        self.assertEqual(desk.say("chains mae be ti"), "broken mae be ti")
        self.assertEqual(desk.say("chains bo be ba mae ti ro"), "broken mae be ti")
        self.assertEqual(desk.say("chains mae ti"), "mae / ti")


class Poems(unittest.TestCase):
    def test_one_row(self):
        desk = desk_with("metre m u", "form f m -")
        self.assertEqual(desk.say("poem f ba"), "yes")
        self.assertEqual(desk.say("poem f bae"), "metre 0")
        self.assertEqual(desk.say("poem f ba be"), "metre 0")

    def test_several_rows_and_the_first_fault(self):
        desk = desk_with("metre m x", "metre n x x", "form f m a; n b; m a; as 2")
        self.assertEqual(desk.say("poem f ba / be bo / ta / be bo"), "yes")
        self.assertEqual(desk.say("poem f ba / be bo / ta"), "rows 3")
        self.assertEqual(desk.say("poem f ba / be bo / to / be bo"), "rhyme 2 0")
        self.assertEqual(desk.say("poem f ba / be bo / ta / be ba"), "again 3 1")
        self.assertEqual(desk.say("poem f ba / be / to / be ba"), "metre 1")
        self.assertEqual(desk.say("poem f ba / be bo / to ta / be ba"), "metre 2")

    def test_numbers_of_more_than_one_figure(self):
        desk = desk_with("metre m x", "form f " + "; ".join(["m a"] * 12))
        self.assertEqual(desk.say("poem f " + " / ".join(["ba"] * 12)), "yes")
        self.assertEqual(desk.say("poem f " + " / ".join(["ba"] * 11 + ["be"])), "rhyme 11 0")
        self.assertEqual(desk.say("poem f " + " / ".join(["ba"] * 13)), "rows 13")

    def test_a_stanza(self):
        desk = desk_with("metre m x", "form f (; m a; as 1; ) 1 2")
        self.assertEqual(desk.say("poem f ba / ba"), "yes")
        self.assertEqual(desk.say("poem f ba / ba / be / be"), "yes")
        self.assertEqual(desk.say("poem f ba / ba / be / ba"), "again 3 2")

    def test_within(self):
        desk = desk_with("metre s u", "metre x x", "form one s a; s a; as 1", "form loose x -; x -; x -",
                       "form tight s a; s b; as 2", "form short s -", "form bound x -; x a; x a",
                       "form free s -; s -; s -")
        self.assertEqual(desk.say("within one one"), "yes")
        self.assertEqual(desk.say("within one loose"), "yes")
        self.assertEqual(desk.say("within one bound"), "yes")
        self.assertEqual(desk.say("within loose one"), "metre 3 0")
        self.assertEqual(desk.say("within one tight"), "again 3 2 1")
        self.assertEqual(desk.say("within one short"), "rows 3")
        self.assertEqual(desk.say("within short one"), "rows 1")
        self.assertEqual(desk.say("within free bound"), "rhyme 3 2 1")


class AgainstTheStages(unittest.TestCase):
    ROWS = ("carry a e o", "long e", "either o", "begin br", "split br", "run may", "run must", "alike a e")
    PARTS = ("m a", "m a", "n b", "m A", "n -", "as 1", "as 2")

    def test_by_chance(self):
        chance = random.Random(30)
        for number in range(120):
            rules = [self.ROWS[0]] + chance.sample(self.ROWS[1:], 4)
            tongue = Tongue(rules)
            words, others, metre = some_mending(chance, tongue)
            words = words or ["bo"]
            text = " ".join(words)
            desk = Desk()
            for row in rules:
                desk.say("rule " + row)
            desk.say("metre m " + written_metre(metre))
            for word, other, price in others:
                desk.say(f"other {word} {other} {price}")
            table = table_of(tongue, words)
            self.assertEqual(desk.say("ways " + text), str(many_sayings(table)))
            self.assertEqual(desk.say("count m " + text), str(many_readings(table, metre)))
            for at in range(min(5, many_readings(table, metre))):
                saying, feet = reading_at(table, metre, at)
                patterns = [slot[0][chosen] for slot, chosen in zip(metre, feet)]
                self.assertEqual(desk.say(f"read m {at} {text}"),
                                 shown_as(tongue, words, saying) + " / " + " ".join(patterns))
            mending = mend(tongue, words, metre, others)
            self.assertEqual(desk.say("mend m " + text), "none" if mending is None else str(mending[0]))
            self.assertEqual(desk.say(f"rhyme {words[0]} {words[-1]}"),
                             "yes" if rhymes(tongue, words[0], words[-1]) else "no")

    def test_poems_and_forms_by_chance(self):
        chance = random.Random(31)
        for number in range(120):
            desk = desk_with()
            tongue = Tongue(list(RULES))
            metres = {"m": read_metre("x/xx"), "n": some_metre(chance)}
            for name, metre in metres.items():
                desk.say(f"metre {name} {written_metre(metre)}")
            texts = ["; ".join(some_form(chance, self.PARTS, 4)) for form in range(2)]
            desk.say("form one " + texts[0])
            desk.say("form other " + texts[1])
            poem = [chance.choice((["ba"], ["bo", "bae"], ["bo"], ["ta"])) for row in range(chance.randint(1, 5))]
            faults = faults_of(tongue, metres, read_form(texts[0]), poem)
            self.assertEqual(desk.say("poem one " + " / ".join(" ".join(row) for row in poem)),
                             " ".join(str(part) for part in faults[0]) if faults else "yes")
            fault = form_within(read_form(texts[0]), read_form(texts[1]), metres)
            told = "yes" if fault is None else " ".join(str(part) for part in fault if not isinstance(part, list))
            self.assertEqual(desk.say("within one other"), told)


if __name__ == "__main__":
    unittest.main()
