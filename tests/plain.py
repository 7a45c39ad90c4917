"""The document's words taken one by one, without any counting: what the program is held against at small cases."""

import itertools

from lilt.metres import moves_of
from lilt.tables import table_of
from lilt.tongues import Tongue
from lilt.words import options_of

# Things that are no words wherever b, r and t are stops.
NO_WORDS = ("", "b", "brr", "BA", "Ba", "b-", "ba be", " ba", "ba ", "ba\n", "a" * 25, 5, 0, None, True, ["ba"],
            ("ba",), {"ba": 1}, b"ba", 1.5, object())
START = (0, 0, 0)
SHORT = (0, "u")
LONG = (0, "-")
SPLIT = (1, "-")


def syllables_in(table):
    return [options for word in table for options in word]


def sayings_of(table):
    """All sayings, in their order [11]: product tells the first syllable's options slowest, the last one's fastest."""
    return [list(saying) for saying in itertools.product(*syllables_in(table))]


def said_in(table, saying):
    """What is said in a saying [12]."""
    places = [(syllable, word) for word in table for syllable in range(len(word))]
    return [(option[1], syllable == len(word) - 1) for option, (syllable, word) in zip(saying, places) if option]


def fits(metre, row, feet):
    """Whether a number of a pattern for each slot is feet of a said row [16]."""
    signs = []
    for (patterns, cut), number in zip(metre, feet):
        pattern = patterns[number]
        signs.extend((sign, cut and at == len(pattern) - 1) for at, sign in enumerate(pattern))
    if len(signs) != len(row):
        return False
    return all(sign in (mark, "x") and (ends or not cut) for (sign, cut), (mark, ends) in zip(signs, row))


def feet_in(metre, row):
    """All lists of feet of a said row, in their order [16]."""
    numbers = itertools.product(*[range(len(patterns)) for patterns, cut in metre])
    return [list(feet) for feet in numbers if fits(metre, row, feet)]


def readings_in(table, metre):
    """All readings of a table in a metre, in their order [17]."""
    return [(saying, feet) for saying in sayings_of(table) for feet in feet_in(metre, said_in(table, saying))]


def has_reading(table, metre):
    """Whether a table has a reading in a metre [17]."""
    return any(feet_in(metre, said_in(table, saying)) for saying in sayings_of(table))


def choices_in(word, others):
    """The choices for a word [19]."""
    return [(word, 0)] + [(other, price) for told, other, price in others if told == word]


def mendings_in(words, others):
    """All mendings of a row of words, tuples (price, words) [19]."""
    taken = itertools.product(*[choices_in(word, others) for word in words])
    return [(sum(price for word, price in mending), [word for word, price in mending]) for mending in taken]


def right_mendings(tongue, words, metre, others):
    """All mendings that are right in a metre: whose table has a reading in it [19]."""
    mendings = mendings_in(words, others)
    return [(price, taken) for price, taken in mendings if has_reading(table_of(tongue, taken), metre)]


def states_behind(metre, state, syllables):
    """The states to which a metre moves over what is said of syllables, tuples (options, ends), by any options."""
    behind = set()
    for saying in itertools.product(*[options for options, ends in syllables]):
        states = {state}
        for option, (options, ends) in zip(saying, syllables):
            if option is not None:
                states = {later for ahead in states for pattern, later in moves_of(metre, ahead, option[1], ends)}
        behind = behind | states
    return behind


def steps_in(tongue, words, metre, others, number, told):
    """All steps from a tuple of the layer of this number [21]: tuples (choice, state, price)."""
    choice, state, price = told
    steps = []
    for later, (word, cost) in enumerate(choices_in(words[number], others)):
        syllables = [(options, False) for options in options_of(tongue, word, None)[:-1]]
        if number > 0:
            ahead = choices_in(words[number - 1], others)[choice][0]
            syllables = [(options_of(tongue, ahead, word)[-1], True)] + syllables
        steps.extend((later, reached, price + cost) for reached in states_behind(metre, state, syllables))
    return steps


def is_end(tongue, words, metre, others, told):
    """Whether a tuple of the last layer is an end [21]."""
    if not words:
        return False
    last = choices_in(words[-1], others)[told[0]][0]
    return (len(metre), 0, 0) in states_behind(metre, told[1], [(options_of(tongue, last, None)[-1], True)])


def paper_holds(tongue, words, metre, others, paper, price):
    """Whether a paper holds for a price, point by point [22]."""
    if len(paper) != len(words) + 1 or paper[0] != [(0, START, 0)]:
        return False
    for layer in paper:
        if any(one[:2] == other[:2] for one, other in itertools.combinations(layer, 2)):
            return False
    for word, layer in zip(words, paper[1:]):
        if any(choice not in range(len(choices_in(word, others))) for choice, state, cost in layer):
            return False
    for number in range(len(words)):
        for told in paper[number]:
            for choice, state, cost in steps_in(tongue, words, metre, others, number, told):
                if not any(later[:2] == (choice, state) and later[2] <= cost for later in paper[number + 1]):
                    return False
    ends = [told for told in paper[-1] if is_end(tongue, words, metre, others, told)]
    return all(price is not None and told[2] >= price for told in ends)


def said_rows(most):
    """All said rows of at most so many marks, the empty one too."""
    marks = list(itertools.product("u-", (False, True)))
    return [list(row) for many in range(most + 1) for row in itertools.product(marks, repeat=many)]


def some_table(chance):
    """A small table, by a told source of chance."""
    table = []
    for word in range(chance.randint(0, 3)):
        many = chance.randint(1, 2)
        table.append([some_options(chance, syllable == many - 1) for syllable in range(many)])
    return table


def some_options(chance, last):
    options = [SHORT, LONG, SPLIT] + ([None] if last else [])
    return chance.sample(options, chance.randint(1, len(options)))


def some_metre(chance):
    """A small metre, by a told source of chance."""
    patterns = ["".join(signs) for many in (1, 2, 3) for signs in itertools.product("u-xx", repeat=many)]
    unlike = sorted(set(patterns))
    slots = range(chance.randint(1, 3))
    return tuple((tuple(chance.sample(unlike, chance.randint(1, 4))), chance.random() < 0.3) for slot in slots)


def some_tongue(chance):
    """A tongue of the letters that some_word takes, by a told source of chance."""
    rows = ["carry a e o", "long e", "either o", "begin br", "split br", "run may", "run must"]
    return Tongue(rows[:1] + [row for row in rows[1:] if chance.random() < 0.6])


def some_word(chance):
    """A word of at most four letters, by a told source of chance."""
    word = "".join(chance.choices("aaeobr", k=chance.randint(1, 4)))
    return word if set(word) & set("aeo") else word[1:] + "a"


def some_row(chance):
    """A row of at most three words, by a told source of chance."""
    return [some_word(chance) for number in range(chance.randint(0, 3))]


def some_others(chance, words):
    """A few others, most of them for these words, by a told source of chance."""
    known = words + [some_word(chance)]
    many = range(chance.randint(0, 4))
    return [(chance.choice(known), some_word(chance), chance.randint(1, 5)) for number in many]


def some_mending(chance, tongue):
    """A row of words, others, and a metre that fits one of its mendings or, now and then, whatever comes."""
    words = some_row(chance)
    others = some_others(chance, words)
    taken = chance.choice(mendings_in(words, others))[1]
    table = table_of(tongue, taken)
    row = said_in(table, chance.choice(sayings_of(table)))
    if not row or chance.random() < 0.3:
        return words, others, some_metre(chance)
    return words, others, some_metre_of(chance, [mark for mark, ends in row])


def some_metre_of(chance, marks):
    """A metre of which some patterns are just these marks, by a told source of chance."""
    slots = []
    while marks:
        many = max(chance.randint(1, 3), len(marks) - 3 * (11 - len(slots)))
        slots.append((tuple(sorted({"".join(marks[:many]), chance.choice(("u", "-x", "x"))})), chance.random() < 0.2))
        marks = marks[many:]
    return tuple(slots)
