"""The document's words taken one by one, without any counting: what the program is held against at small cases."""

import itertools

from lilt.desk import Desk
from lilt.errors import NoForm
from lilt.forms import plain_rows, read_form, times_of
from lilt.metres import moves_of
from lilt.rhymes import rhymes
from lilt.tables import table_of
from lilt.tongues import Tongue
from lilt.words import options_of

# Things that are no words wherever b, r and t are stops.
NO_WORDS = ("", "b", "brr", "BA", "Ba", "b-", "ba be", " ba", "ba ", "ba\n", "a" * 25, 5, 0, None, True, ["ba"],
            ("ba",), {"ba": 1}, b"ba", 1.5, object())
START = (0, 0, 0)
SHORT = (0, "u")
LONG = (0, "-")
SPLIT = (1, "-")


def syllables_in(table):
    return [options for word in table for options in word]


def sayings_of(table):
    """All sayings, in their order [11]: product tells the first syllable's options slowest, the last one's fastest."""
    return [list(saying) for saying in itertools.product(*syllables_in(table))]


def said_in(table, saying):
    """What is said in a saying [12]."""
    places = [(syllable, word) for word in table for syllable in range(len(word))]
    return [(option[1], syllable == len(word) - 1) for option, (syllable, word) in zip(saying, places) if option]


def fits(metre, row, feet):
    """Whether a number of a pattern for each slot is feet of a said row [16]."""
    signs = []
    for (patterns, cut), number in zip(metre, feet):
        pattern = patterns[number]
        signs.extend((sign, cut and at == len(pattern) - 1) for at, sign in enumerate(pattern))
    if len(signs) != len(row):
        return False
    return all(sign in (mark, "x") and (ends or not cut) for (sign, cut), (mark, ends) in zip(signs, row))


def feet_in(metre, row):
    """All lists of feet of a said row, in their order [16]."""
    numbers = itertools.product(*[range(len(patterns)) for patterns, cut in metre])
    return [list(feet) for feet in numbers if fits(metre, row, feet)]


def readings_in(table, metre):
    """All readings of a table in a metre, in their order [17]."""
    return [(saying, feet) for saying in sayings_of(table) for feet in feet_in(metre, said_in(table, saying))]


def has_reading(table, metre):
    """Whether a table has a reading in a metre [17]."""
    return any(feet_in(metre, said_in(table, saying)) for saying in sayings_of(table))


def choices_in(word, others):
    """The choices for a word [19]."""
    return [(word, 0)] + [(other, price) for told, other, price in others if told == word]


def mendings_in(words, others):
    """All mendings of a row of words, tuples (price, words) [19]."""
    taken = itertools.product(*[choices_in(word, others) for word in words])
    return [(sum(price for word, price in mending), [word for word, price in mending]) for mending in taken]


def right_mendings(tongue, words, metre, others):
    """All mendings that are right in a metre: whose table has a reading in it [19]."""
    mendings = mendings_in(words, others)
    return [(price, taken) for price, taken in mendings if has_reading(table_of(tongue, taken), metre)]


def states_behind(metre, state, syllables):
    """The states to which a metre moves over what is said of syllables, tuples (options, ends), by any options."""
    behind = set()
    for saying in itertools.product(*[options for options, ends in syllables]):
        states = {state}
        for option, (options, ends) in zip(saying, syllables):
            if option is not None:
                states = {later for ahead in states for pattern, later in moves_of(metre, ahead, option[1], ends)}
        behind = behind | states
    return behind


def steps_in(tongue, words, metre, others, number, told):
    """All steps from a tuple of the layer of this number [21]: tuples (choice, state, price)."""
    choice, state, price = told
    steps = []
    for later, (word, cost) in enumerate(choices_in(words[number], others)):
        syllables = [(options, False) for options in options_of(tongue, word, None)[:-1]]
        if number > 0:
            ahead = choices_in(words[number - 1], others)[choice][0]
            syllables = [(options_of(tongue, ahead, word)[-1], True)] + syllables
        steps.extend((later, reached, price + cost) for reached in states_behind(metre, state, syllables))
    return steps


def is_end(tongue, words, metre, others, told):
    """Whether a tuple of the last layer is an end [21]."""
    if not words:
        return False
    last = choices_in(words[-1], others)[told[0]][0]
    return (len(metre), 0, 0) in states_behind(metre, told[1], [(options_of(tongue, last, None)[-1], True)])


def paper_holds(tongue, words, metre, others, paper, price):
    """Whether a paper holds for a price, point by point [22]."""
    if len(paper) != len(words) + 1 or paper[0] != [(0, START, 0)]:
        return False
    for layer in paper:
        if any(one[:2] == other[:2] for one, other in itertools.combinations(layer, 2)):
            return False
    for word, layer in zip(words, paper[1:]):
        if any(choice not in range(len(choices_in(word, others))) for choice, state, cost in layer):
            return False
    for number in range(len(words)):
        for told in paper[number]:
            for choice, state, cost in steps_in(tongue, words, metre, others, number, told):
                if not any(later[:2] == (choice, state) and later[2] <= cost for later in paper[number + 1]):
                    return False
    ends = [told for told in paper[-1] if is_end(tongue, words, metre, others, told)]
    return all(price is not None and told[2] >= price for told in ends)


def said_rows(most):
    """All said rows of at most so many marks, the empty one too."""
    marks = list(itertools.product("u-", (False, True)))
    return [list(row) for many in range(most + 1) for row in itertools.product(marks, repeat=many)]


def rows_in(metre):
    """All said rows of a metre [28], feet by feet: a dict of how many lists of feet each has, rows being tuples."""
    rows = {}
    for feet in itertools.product(*[range(len(patterns)) for patterns, cut in metre]):
        signs = []
        for (patterns, cut), number in zip(metre, feet):
            signs.extend((sign, False) for sign in patterns[number][:-1])
            signs.append((patterns[number][-1], cut))
        signs[-1] = (signs[-1][0], True)
        places = [[(mark, ends) for mark in ("u-" if sign == "x" else sign) for ends in (False, True)
                   if ends or not must] for sign, must in signs]
        for row in itertools.product(*places):
            rows[row] = rows.get(row, 0) + 1
    return rows


def first_in(rows):
    """The first of said rows in their order [28], or None where there are none."""
    key = min(((len(row), [("u-".index(mark), ends) for mark, ends in row]) for row in rows), default=None)
    return None if key is None else [("u-"[mark], ends) for mark, ends in key[1]]


def first_beyond(one, other):
    """The first said row that is of the one metre and not of the other, all gone through, or None [28]."""
    return first_in(set(rows_in(one)) - set(rows_in(other)))


def first_twice(metre):
    """The first said row that has two lists of feet, all gone through, or None [28]."""
    return first_in([row for row, many in rows_in(metre).items() if many > 1])


def plain_of(form, many):
    """The plain rows of the times that have so many, or None [27]."""
    found = [plain_rows(form, times) for times in times_of(form) if len(plain_rows(form, times)) == many]
    return found[0] if found else None


def poem_faults(tongue, metres, form, poem):
    """The faults of a poem whose names and words are all known, point by point [27]."""
    plain = plain_of(form, len(poem))
    if plain is None:
        return [("rows", len(poem))]
    faults = []
    for k, (metre, bond, back) in enumerate(plain):
        if not has_reading(table_of(tongue, poem[k]), metres[metre]):
            faults.append(("metre", k))
        for j in range(k):
            if bond is not None and plain[j][1] == bond:
                if not poem[k] or not poem[j] or not rhymes(tongue, poem[k][-1], poem[j][-1]):
                    faults.append(("rhyme", k, j))
                    break
        if back is not None and poem[k] != poem[back]:
            faults.append(("again", k, back))
    return faults


def same_rows(plain, k, j):
    """Whether two plain rows are the same [29]."""
    one, other = plain[k][2], plain[j][2]
    return one == j or other == k or (one is not None and one == other)


def bound_rows(plain, k, j):
    """Whether two plain rows are bound [29]."""
    first = [number for number in range(len(plain)) if number == k or same_rows(plain, number, k)]
    second = [number for number in range(len(plain)) if number == j or same_rows(plain, number, j)]
    bonds = [(plain[one][1], plain[other][1]) for one in first for other in second]
    return same_rows(plain, k, j) or any(one is not None and one == other for one, other in bonds)


def form_faults(one, other, metres):
    """All faults of the one form by the other whose names are all known, point by point [29]."""
    faults = []
    for times in times_of(one):
        mine = plain_rows(one, times)
        n = len(mine)
        theirs = plain_of(other, n)
        if theirs is None:
            faults.append(("rows", n))
            continue
        for k, (metre, bond, back) in enumerate(theirs):
            said = first_beyond(metres[mine[k][0]], metres[metre])
            if said is not None:
                faults.append(("metre", n, k, said))
            for j in range(k):
                if bond is not None and theirs[j][1] == bond and not bound_rows(mine, k, j):
                    faults.append(("rhyme", n, k, j))
            if back is not None and not same_rows(mine, k, back):
                faults.append(("again", n, k, back))
    return faults


def some_table(chance):
    """A small table, by a told source of chance."""
    table = []
    for word in range(chance.randint(0, 3)):
        many = chance.randint(1, 2)
        table.append([some_options(chance, syllable == many - 1) for syllable in range(many)])
    return table


def some_options(chance, last):
    options = [SHORT, LONG, SPLIT] + ([None] if last else [])
    return chance.sample(options, chance.randint(1, len(options)))


def some_metre(chance):
    """A small metre, by a told source of chance."""
    patterns = ["".join(signs) for many in (1, 2, 3) for signs in itertools.product("u-xx", repeat=many)]
    unlike = sorted(set(patterns))
    slots = range(chance.randint(1, 3))
    return tuple((tuple(chance.sample(unlike, chance.randint(1, 4))), chance.random() < 0.3) for slot in slots)


def some_tongue(chance):
    """A tongue of the letters that some_word takes, by a told source of chance."""
    rows = ["carry a e o", "long e", "either o", "begin br", "split br", "run may", "run must"]
    return Tongue(rows[:1] + [row for row in rows[1:] if chance.random() < 0.6])


def some_word(chance):
    """A word of at most four letters, by a told source of chance."""
    word = "".join(chance.choices("aaeobr", k=chance.randint(1, 4)))
    return word if set(word) & set("aeo") else word[1:] + "a"


def some_row(chance):
    """A row of at most three words, by a told source of chance."""
    return [some_word(chance) for number in range(chance.randint(0, 3))]


def some_others(chance, words):
    """A few others, most of them for these words, by a told source of chance."""
    known = words + [some_word(chance)]
    many = range(chance.randint(0, 4))
    return [(chance.choice(known), some_word(chance), chance.randint(1, 5)) for number in many]


def some_mending(chance, tongue):
    """A row of words, others, and a metre that fits one of its mendings or, now and then, whatever comes."""
    words = some_row(chance)
    others = some_others(chance, words)
    taken = chance.choice(mendings_in(words, others))[1]
    table = table_of(tongue, taken)
    row = said_in(table, chance.choice(sayings_of(table)))
    if not row or chance.random() < 0.3:
        return words, others, some_metre(chance)
    return words, others, some_metre_of(chance, [mark for mark, ends in row])


def some_metre_of(chance, marks):
    """A metre of which some patterns are just these marks, by a told source of chance."""
    slots = []
    while marks:
        many = max(chance.randint(1, 3), len(marks) - 3 * (11 - len(slots)))
        slots.append((tuple(sorted({"".join(marks[:many]), chance.choice(("u", "-x", "x"))})), chance.random() < 0.2))
        marks = marks[many:]
    return tuple(slots)


def some_form(chance, known, most):
    """The texts of a form's parts, at most so many of these rows and returns, by a told source of chance."""
    while True:
        parts = chance.choices(known, k=chance.randint(1, most))
        if chance.random() < 0.7:
            start = chance.randint(0, len(parts) - 1)
            behind = chance.randint(start + 1, len(parts))
            low = chance.randint(0, 4)
            ending = f") {low} {chance.randint(max(1, low), 4)}"
            parts = parts[:start] + ["("] + parts[start:behind] + [ending] + parts[behind:]
        try:
            read_form("; ".join(parts))
        except NoForm:
            continue
        return parts


def desk_of(rows):
    """A desk that was told these rows, each answered with ok."""
    desk = Desk()
    for row in rows:
        if desk.say(row) != "ok":
            raise AssertionError(row)
    return desk
