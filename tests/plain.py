"""The document's words taken one by one, without any counting: what the program is held against at small cases."""

import itertools

SHORT = (0, "u")
LONG = (0, "-")
SPLIT = (1, "-")


def syllables_in(table):
    return [options for word in table for options in word]


def sayings_of(table):
    """All sayings, in their order [11]: product tells the first syllable's options slowest, the last one's fastest."""
    return [list(saying) for saying in itertools.product(*syllables_in(table))]


def said_in(table, saying):
    """What is said in a saying [12]."""
    places = [(syllable, word) for word in table for syllable in range(len(word))]
    return [(option[1], syllable == len(word) - 1) for option, (syllable, word) in zip(saying, places) if option]


def fits(metre, row, feet):
    """Whether a number of a pattern for each slot is feet of a said row [16]."""
    signs = []
    for (patterns, cut), number in zip(metre, feet):
        pattern = patterns[number]
        signs.extend((sign, cut and at == len(pattern) - 1) for at, sign in enumerate(pattern))
    if len(signs) != len(row):
        return False
    return all(sign in (mark, "x") and (ends or not cut) for (sign, cut), (mark, ends) in zip(signs, row))


def feet_in(metre, row):
    """All lists of feet of a said row, in their order [16]."""
    numbers = itertools.product(*[range(len(patterns)) for patterns, cut in metre])
    return [list(feet) for feet in numbers if fits(metre, row, feet)]


def readings_in(table, metre):
    """All readings of a table in a metre, in their order [17]."""
    return [(saying, feet) for saying in sayings_of(table) for feet in feet_in(metre, said_in(table, saying))]


def said_rows(most):
    """All said rows of at most so many marks, the empty one too."""
    marks = list(itertools.product("u-", (False, True)))
    return [list(row) for many in range(most + 1) for row in itertools.product(marks, repeat=many)]


def some_table(chance):
    """A small table, by a told source of chance."""
    table = []
    for word in range(chance.randint(0, 3)):
        many = chance.randint(1, 2)
        table.append([some_options(chance, syllable == many - 1) for syllable in range(many)])
    return table


def some_options(chance, last):
    options = [SHORT, LONG, SPLIT] + ([None] if last else [])
    return chance.sample(options, chance.randint(1, len(options)))


def some_metre(chance):
    """A small metre, by a told source of chance."""
    patterns = ["".join(signs) for many in (1, 2, 3) for signs in itertools.product("u-xx", repeat=many)]
    unlike = sorted(set(patterns))
    slots = range(chance.randint(1, 3))
    return tuple((tuple(chance.sample(unlike, chance.randint(1, 4))), chance.random() < 0.3) for slot in slots)
