"""Tables of options: their sayings by number, what is said in a saying, and its text."""

from lilt.words import options_of, syllables_of

SPLIT = (1, "-")


def table_of(tongue, words):
    """The table of a row of words: for each word its syllables' options, the last word followed by none."""
    follows = words[1:] + [None]
    return [options_of(tongue, word, follow) for word, follow in zip(words, follows)]


def options_in(table):
    """The options of each syllable, all words in one list."""
    listed = []
    for word in table:
        listed.extend(word)
    return listed


def ends_in(table):
    """For each syllable of all words, whether it is the last one of its word."""
    listed = []
    for word in table:
        listed.extend([False] * (len(word) - 1) + [True])
    return listed


def many_sayings(table):
    """How many sayings a table has."""
    many = 1
    for options in options_in(table):
        many = many * len(options)
    return many


def saying_at(table, number):
    """The saying of a number, from 0 and below their count."""
    backwards = []
    rest = number
    # The last syllable goes round fastest, so it is found first.
    for options in reversed(options_in(table)):
        backwards.append(options[rest % len(options)])
        rest = rest // len(options)
    return list(reversed(backwards))


def number_of_saying(table, saying):
    """The number of a saying of the table."""
    number = 0
    for options, option in zip(options_in(table), saying):
        number = number * len(options) + options.index(option)
    return number


def is_saying(table, saying):
    """Whether a list of options is a saying of the table."""
    syllables = options_in(table)
    if len(saying) != len(syllables):
        return False
    return all([option in options for options, option in zip(syllables, saying)])


def said_of(table, saying):
    """What is said in a saying: a tuple (mark, ends) for each syllable that is."""
    return [(option[1], ends) for option, ends in zip(saying, ends_in(table)) if option is not None]


def letters_in(syllables, saying):
    """The letters of each syllable of a word, where those that are said split keep a stop that would go over."""
    heads = [syllable[0] for syllable in syllables]
    tails = [syllable[2] for syllable in syllables]
    for at, option in enumerate(saying):
        if option == SPLIT:
            tails[at] = tails[at] + heads[at + 1][:1]
            heads[at + 1] = heads[at + 1][1:]
    return [head + syllable[1] + tail for head, syllable, tail in zip(heads, syllables, tails)]


def shown_syllable(letters, option):
    """A syllable's letters with its mark behind, or in brackets where it is not said."""
    if option is None:
        return "(" + letters + ")"
    return letters + option[1]


def shown_word(syllables, saying):
    """The text of a word by the options of its own syllables."""
    letters = letters_in(syllables, saying)
    return ".".join([shown_syllable(text, option) for text, option in zip(letters, saying)])


def shown_as(tongue, words, saying):
    """The text of a saying of words."""
    shown = []
    start = 0
    for word in words:
        syllables = syllables_of(tongue, word)
        behind = start + len(syllables)
        shown.append(shown_word(syllables, saying[start:behind]))
        start = behind
    return " ".join(shown)
