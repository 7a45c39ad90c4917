"""Readings of a table in a metre: let by, counted, by their numbers and back, and foot by foot."""

from lilt.errors import NoReading
from lilt.feet import are_feet, chosen_by, feet_at, number_of_feet, patterns_of
from lilt.metres import START, end_state, moves_of, states_of
from lilt.tables import ends_in, is_saying, options_in, said_of


def lets_by(table, metre, reading):
    """Whether a tuple of a list of options and a list of whole numbers is a reading."""
    saying = reading[0]
    return is_saying(table, saying) and are_feet(metre, said_of(table, saying), reading[1])


def steps_by(metre, mark, ends):
    """Each step that a metre makes by a mark: a list of tuples (state, state reached)."""
    steps = []
    for state in states_of(metre):
        steps.extend([(state, reached) for pattern, reached in moves_of(metre, state, mark, ends)])
    return steps


def all_steps(metre):
    """The steps that a metre makes, by what is said: a dict by tuples (mark, ends)."""
    steps = {}
    for mark in ("u", "-"):
        for ends in (False, True):
            steps[(mark, ends)] = steps_by(metre, mark, ends)
    return steps


def walked_by(steps, option, ends, states):
    """Each step by an option, tuples (state, state reached): one that isn't said leaves each of the states."""
    return [(state, state) for state in states] if option is None else steps[(option[1], ends)]


def counts_ahead(steps, options, ends, behind):
    """How many ways lead from each state to the metre's end, one syllable ahead of where behind tells it."""
    counts = {}
    for option in options:
        for state, reached in walked_by(steps, option, ends, behind):
            if reached in behind:
                counts[state] = counts.get(state, 0) + behind[reached]
    return counts


def counts_by_syllable(table, metre):
    """For each syllable, and behind all of them, how many ways lead from each state to the metre's end.

    A way is options for the syllables from there on, and patterns by which the metre moves over what is said.
    """
    steps = all_steps(metre)
    behind = {end_state(metre): 1}
    backwards = [behind]
    for options, ends in reversed(list(zip(options_in(table), ends_in(table)))):
        behind = counts_ahead(steps, options, ends, behind)
        backwards.append(behind)
    return list(reversed(backwards))


def ways_on(metre, ways, option, ends):
    """By how many ways each state is reached by one more option, where ways tells it ahead of this one."""
    if option is None:
        return ways
    reached = {}
    for state, many in ways.items():
        for pattern, later in moves_of(metre, state, option[1], ends):
            reached[later] = reached.get(later, 0) + many
    return reached


def counts_by_option(metre, ways, options, ends, behind):
    """For each option of a syllable that is come to by these ways, how many readings go on with it."""
    counts = []
    for option in options:
        reached = ways_on(metre, ways, option, ends)
        counts.append(sum([many * behind.get(state, 0) for state, many in reached.items()]))
    return counts


def many_readings(table, metre):
    """How many readings a table has in a metre."""
    return counts_by_syllable(table, metre)[0].get(START, 0)


def reading_at(table, metre, number):
    """The reading of a number, or NoReading."""
    by_syllable = counts_by_syllable(table, metre)
    if not 0 <= number < by_syllable[0].get(START, 0):
        raise NoReading("there is no reading of this number")
    ends = ends_in(table)
    saying = []
    ways = {START: 1}
    rest = number
    for at, options in enumerate(options_in(table)):
        found = chosen_by(counts_by_option(metre, ways, options, ends[at], by_syllable[at + 1]), rest)
        option = options[found[0]]
        saying.append(option)
        ways = ways_on(metre, ways, option, ends[at])
        rest = found[1]
    # What is left is a number among the feet of this one saying.
    return (saying, feet_at(metre, said_of(table, saying), rest))


def number_of(table, metre, reading):
    """The number of a reading, or NoReading where it is none."""
    if not lets_by(table, metre, reading):
        raise NoReading("this is no reading of the table in the metre")
    by_syllable = counts_by_syllable(table, metre)
    ends = ends_in(table)
    saying = reading[0]
    ways = {START: 1}
    number = 0
    for at, options in enumerate(options_in(table)):
        ahead = options[:options.index(saying[at])]
        number = number + sum(counts_by_option(metre, ways, ahead, ends[at], by_syllable[at + 1]))
        ways = ways_on(metre, ways, saying[at], ends[at])
    return number + number_of_feet(metre, said_of(table, saying), reading[1])


def places_of(table, saying):
    """For each syllable that is said a tuple (word, syllable, mark): its numbers and its mark."""
    places = []
    at = 0
    for word, syllables in enumerate(table):
        for syllable in range(len(syllables)):
            option = saying[at]
            if option is not None:
                places.append((word, syllable, option[1]))
            at = at + 1
    return places


def foot_by_foot(table, metre, reading):
    """A reading told foot by foot: for each slot its pattern's text and the syllables that it stands for."""
    places = places_of(table, reading[0])
    told = []
    start = 0
    for pattern in patterns_of(metre, reading[1]):
        behind = start + len(pattern)
        told.append((pattern, places[start:behind]))
        start = behind
    return told
