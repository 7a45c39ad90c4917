"""The desk: it is told rows of text, keeps what they tell, and answers each of them with a text."""

from lilt.errors import NoName, NoRow
from lilt.feet import patterns_of
from lilt.forms import is_name, read_form
from lilt.inside import form_within
from lilt.mending import mend
from lilt.metres import read_metre
from lilt.poems import faults_of
from lilt.readings import many_readings, reading_at
from lilt.rhymes import chains_of, rhymes
from lilt.tables import many_sayings, shown_as, table_of
from lilt.tongues import Tongue
from lilt.words import refuse_no_word, syllables_of

FIGURES = "0123456789"
MOST_PRICE_FIGURES = 9
MOST_NUMBER_FIGURES = 60
PARTING = " / "
DONE = "ok"
YES = "yes"

# What stands behind the first word of each row that there is.
SHAPES = {
    "rule": ("TEXT",),
    "metre": ("NAME", "TEXT"),
    "form": ("NAME", "TEXT"),
    "other": ("WORD", "WORD", "PRICE"),
    "cut": ("WORD",),
    "ways": ("WORDS",),
    "count": ("NAME", "WORDS"),
    "read": ("NAME", "NUMBER", "WORDS"),
    "mend": ("NAME", "WORDS"),
    "rhyme": ("WORD", "WORD"),
    "chains": ("WORDS",),
    "poem": ("NAME", "ROWS"),
    "within": ("NAME", "NAME"),
}
# These go on to the row's end, blanks and all.
OPEN_ENDS = ("TEXT", "WORDS", "ROWS")


def is_text(thing):
    """Whether any thing is a text, so without a row end or a tab."""
    return isinstance(thing, str) and all([" " <= sign <= "~" for sign in thing])


def is_number(text, most):
    """Whether a text is a number of so many figures at most, without noughts ahead."""
    if not 1 <= len(text) <= most or not all([sign in FIGURES for sign in text]):
        return False
    return text == "0" or text[0] != "0"


def has_shape(kind, part):
    """Whether a part has the form without which its row is none; of names, words and texts their stages judge."""
    if kind == "PRICE":
        return is_number(part, MOST_PRICE_FIGURES) and part != "0"
    return kind != "NUMBER" or is_number(part, MOST_NUMBER_FIGURES)


def cut_row(row):
    """The first word of a row and the parts behind it, as its shape tells, or NoRow."""
    shape = SHAPES.get(row.split(" ")[0], ()) if is_text(row) else ()
    if len(shape) == 0:
        raise NoRow("no row begins so")
    parts = row.split(" ", len(shape)) if shape[-1] in OPEN_ENDS else row.split(" ")
    if len(parts) != len(shape) + 1:
        raise NoRow("a row of this first word has more or fewer parts")
    if not all([has_shape(kind, part) for kind, part in zip(shape, parts[1:])]):
        raise NoRow("a number in this row is none")
    return parts


def kept(things, name):
    """What is kept by a name, or NoName."""
    if name not in things:
        raise NoName("nothing is kept by this name")
    return things[name]


def refuse_misnamed(name):
    """Refuse a name that has not the form of one."""
    if not is_name(name):
        raise NoName("this is no name")


def tell_rule(desk, parts):
    """Make a text one more row of the tongue."""
    rules = desk.rules + [parts[0]]
    # The whole tongue is told anew, since a rule may make an earlier row one that is none.
    desk.tongue = Tongue(rules)
    desk.rules = rules
    return DONE


def tell_metre(desk, parts):
    """Keep a metre by its name."""
    refuse_misnamed(parts[0])
    desk.metres[parts[0]] = read_metre(parts[1])
    return DONE


def tell_form(desk, parts):
    """Keep a form by its name."""
    refuse_misnamed(parts[0])
    desk.forms[parts[0]] = read_form(parts[1])
    return DONE


def tell_other(desk, parts):
    """Keep one more other."""
    refuse_no_word(desk.tongue, parts[0])
    refuse_no_word(desk.tongue, parts[1])
    desk.others.append((parts[0], parts[1], int(parts[2])))
    return DONE


def answer_cut(desk, parts):
    """The letters of a word's syllables."""
    syllables = syllables_of(desk.tongue, parts[0])
    return ".".join([head + carrier + tail for head, carrier, tail, split in syllables])


def answer_ways(desk, parts):
    """How many sayings words have."""
    return str(many_sayings(table_of(desk.tongue, parts[0].split(" "))))


def answer_count(desk, parts):
    """How many readings words have in a metre."""
    metre = kept(desk.metres, parts[0])
    return str(many_readings(table_of(desk.tongue, parts[1].split(" ")), metre))


def answer_read(desk, parts):
    """The reading of a number: its saying and the patterns of its feet."""
    metre = kept(desk.metres, parts[0])
    words = parts[2].split(" ")
    reading = reading_at(table_of(desk.tongue, words), metre, int(parts[1]))
    return " ".join([shown_as(desk.tongue, words, reading[0]), "/"] + patterns_of(metre, reading[1]))


def answer_mend(desk, parts):
    """The price of a least mending of words in a metre."""
    metre = kept(desk.metres, parts[0])
    mending = mend(desk.tongue, parts[1].split(" "), metre, desk.others)
    return "none" if mending is None else str(mending[0])


def answer_rhyme(desk, parts):
    """Whether two words rhyme."""
    return YES if rhymes(desk.tongue, parts[0], parts[1]) else "no"


def words_at(words, numbers):
    """The words of these numbers, parted by a blank."""
    return " ".join([words[number] for number in numbers])


def answer_chains(desk, parts):
    """The classes of words that rhyme with one another, or three words at which rhyme is broken."""
    words = parts[0].split(" ")
    told = chains_of(desk.tongue, words)
    if told[0] == "broken":
        return "broken " + words_at(words, told[1])
    return PARTING.join([words_at(words, numbers) for numbers in told[1]])


def shown_fault(fault):
    """The word and the numbers of a fault, without a said row."""
    return " ".join([str(told) for told in fault if not isinstance(told, list)])


def answer_poem(desk, parts):
    """Whether a poem is of a form, or its first fault."""
    form = kept(desk.forms, parts[0])
    poem = [row.split(" ") for row in parts[1].split(PARTING)]
    faults = faults_of(desk.tongue, desk.metres, form, poem)
    return YES if len(faults) == 0 else shown_fault(faults[0])


def answer_within(desk, parts):
    """Whether one form is within another, or the first fault."""
    fault = form_within(kept(desk.forms, parts[0]), kept(desk.forms, parts[1]), desk.metres)
    return YES if fault is None else shown_fault(fault)


ANSWERS = {
    "rule": tell_rule,
    "metre": tell_metre,
    "form": tell_form,
    "other": tell_other,
    "cut": answer_cut,
    "ways": answer_ways,
    "count": answer_count,
    "read": answer_read,
    "mend": answer_mend,
    "rhyme": answer_rhyme,
    "chains": answer_chains,
    "poem": answer_poem,
    "within": answer_within,
}


class Desk:
    """A desk that keeps a tongue, metres and forms by their names, and others; none at first."""

    def __init__(self):
        self.rules = []
        self.tongue = Tongue([])
        self.metres = {}
        self.forms = {}
        self.others = []

    def say(self, row):
        """The answer to a row, a text, or a refusal, which changes nothing."""
        parts = cut_row(row)
        answer = ANSWERS[parts[0]]
        return answer(self, parts[1:])
