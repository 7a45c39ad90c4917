"""Mending: the choices for each word of a row, their steps through a metre, and a right mending of the least price."""

from lilt.metres import START, end_state
from lilt.readings import all_steps, walked_by
from lilt.words import options_of, refuse_no_word


def choices_of(word, others):
    """The choices for a word, tuples (word, price): itself at 0, then each other told for it."""
    return [(word, 0)] + [(other, price) for told, other, price in others if told == word]


def choices_by_word(tongue, words, others):
    """For each word of a row the choices for it, or NoWord."""
    for word in words:
        refuse_no_word(tongue, word)
    return [choices_of(word, others) for word in words]


def words_by_layer(choices):
    """For each layer of a paper the words of the choices for its word; the layer 0 has None alone, no word."""
    return [[None]] + [[word for word, price in told] for told in choices]


def moved(steps, values, options, ends):
    """The least value at each state behind a syllable said by any of its options, where values tells those ahead."""
    least = {}
    for option in options:
        for state, reached in walked_by(steps, option, ends, values):
            if state in values:
                least[reached] = min(values[state], least.get(reached, values[state]))
    return least


def joined(tongue, steps, words, layer, follow):
    """The least value at each state behind the last syllables of a layer's words, followed by a word or by None.

    The layer tells for each of the words the values by their states.
    """
    least = {}
    for word, values in zip(words, layer):
        # Ahead of the first word nothing is left to be said.
        options = [None] if word is None else options_of(tongue, word, follow)[-1]
        for state, value in moved(steps, values, options, True).items():
            least[state] = min(value, least.get(state, value))
    return least


def stepped(tongue, steps, words, layer, word):
    """The least value at each state stepped to from a layer by one more word, ahead of that word's price."""
    values = joined(tongue, steps, words, layer, word)
    for options in options_of(tongue, word, None)[:-1]:
        values = moved(steps, values, options, False)
    return values


def chosen(values, word, price):
    """The values, tuples (price, words), with one more word and its price."""
    return dict([(state, (value[0] + price, value[1] + (word,))) for state, value in values.items()])


def least_layers(tongue, metre, choices):
    """The layers of least prices: in each, for each choice, a dict by states of tuples (price, words chosen so far)."""
    steps = all_steps(metre)
    words = words_by_layer(choices)
    layers = [[{START: (0, ())}]]
    for ahead, told in zip(words, choices):
        layer = layers[-1]
        layers.append([chosen(stepped(tongue, steps, ahead, layer, word), word, price) for word, price in told])
    return layers


def least_end(tongue, metre, choices, layer):
    """The least value of all ends in the last layer, or None where there is no end."""
    return joined(tongue, all_steps(metre), words_by_layer(choices)[-1], layer, None).get(end_state(metre))


def mend(tongue, words, metre, others):
    """A right mending of the least price, a tuple (price, words), or None where none is right; or NoWord."""
    choices = choices_by_word(tongue, words, others)
    found = least_end(tongue, metre, choices, least_layers(tongue, metre, choices)[-1])
    return None if found is None else (found[0], list(found[1]))
