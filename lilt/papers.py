"""Papers, which show that no right mending costs less than a price: one for a row of words, and whether one holds."""

from lilt.mending import choices_by_word, least_end, least_layers, stepped, words_by_layer
from lilt.metres import START
from lilt.readings import all_steps


def listed(layer):
    """A layer of least prices as a list of tuples (choice, state, price)."""
    told = []
    for choice, values in enumerate(layer):
        told.extend([(choice, state, value[0]) for state, value in values.items()])
    return told


def paper_of(tongue, words, metre, others):
    """A paper that holds for the price of a least mending, or for None where none is right; or NoWord."""
    choices = choices_by_word(tongue, words, others)
    return [listed(layer) for layer in least_layers(tongue, metre, choices)]


def is_layer(many, layer):
    """Whether a layer tells no choice and state twice, and choices alone of which there are so many."""
    if len(set([(choice, state) for choice, state, price in layer])) != len(layer):
        return False
    return all([0 <= choice < many for choice, state, price in layer])


def has_form(choices, paper):
    """Whether a paper has as many layers as told, the layer 0 as told, and the others with choices that there are."""
    if len(paper) != len(choices) + 1 or paper[0] != [(0, START, 0)]:
        return False
    return all([is_layer(len(told), layer) for told, layer in zip(choices, paper[1:])])


def prices_of(choice, layer):
    """The prices by state that a layer tells of a choice."""
    return dict([(state, price) for told, state, price in layer if told == choice])


def by_choice(words, layer):
    """For each of a layer's words, choice by choice, the prices by state."""
    return [prices_of(choice, layer) for choice in range(len(words))]


def covers(prices, values, price):
    """Whether prices has each state that is stepped to, and none greater than the step's, the choice's price added."""
    return all([state in prices and prices[state] <= value + price for state, value in values.items()])


def steps_are_told(tongue, metre, choices, layers):
    """Whether each step from a layer is told by the next one."""
    steps = all_steps(metre)
    words = words_by_layer(choices)
    for at, told in enumerate(choices):
        for prices, choice in zip(layers[at + 1], told):
            if not covers(prices, stepped(tongue, steps, words[at], layers[at], choice[0]), choice[1]):
                return False
    return True


def holds(tongue, words, metre, others, paper, price):
    """Whether a paper holds for a price, or for None; or NoWord."""
    choices = choices_by_word(tongue, words, others)
    if not has_form(choices, paper):
        return False
    layers = [by_choice(told, layer) for told, layer in zip(words_by_layer(choices), paper)]
    if not steps_are_told(tongue, metre, choices, layers):
        return False
    end = least_end(tongue, metre, choices, layers[-1])
    return end is None or (price is not None and end >= price)
