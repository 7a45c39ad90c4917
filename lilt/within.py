"""Metres held against one another: the first said row of one that is not of another, or that is read in two ways."""

from lilt.metres import START, end_state, moves_of, states_of

# What may be said at a place of a row, in the order in which said rows stand.
SAID = (("u", False), ("u", True), ("-", False), ("-", True))


def with_last_cut(metre):
    """The metre with a cut behind its last slot, too: the said rows of both that end with a word are the same."""
    return metre[:-1] + ((metre[-1][0], True),)


def rest_of(metre, state):
    """How a metre goes on from a state: a tuple of the slot's number and, where one is chosen, the pattern's rest."""
    return (state[0], metre[state[0]][0][state[1]][state[2]:] if state[2] > 0 else "")


def rests_ahead(metre):
    """The rests that a metre may come to from a rest by what is said: a dict of lists by tuples (rest, said)."""
    ahead = {}
    for state in states_of(metre):
        for said in SAID:
            moves = moves_of(metre, state, said[0], said[1])
            ahead[(rest_of(metre, state), said)] = [rest_of(metre, reached) for pattern, reached in moves]
    return ahead


class Walk:
    """All places to which said rows lead in a metre, each by its number from 0, the start's.

    A place is a tuple of tuples (rest, ways): by how many ways each rest is come to, told as most where they are more.
    """

    def __init__(self, metre, most):
        closed = with_last_cut(metre)
        self.ahead = rests_ahead(closed)
        self.most = most
        self.end = rest_of(closed, end_state(closed))
        self.places = [((rest_of(closed, START), 1),)]
        self.numbers = {self.places[0]: 0}
        self.onward = {}

    def place_behind(self, number, said):
        """The place to which one leads by what is said."""
        ways = {}
        for rest, many in self.places[number]:
            for reached in self.ahead.get((rest, said), []):
                ways[reached] = min(self.most, ways.get(reached, 0) + many)
        return tuple(sorted(ways.items()))

    def number_of_place(self, place):
        """The number of a place, a new one where it is met for the first time."""
        if place not in self.numbers:
            self.numbers[place] = len(self.places)
            self.places.append(place)
        return self.numbers[place]

    def later(self, number):
        """The numbers of the places to which one leads, by each of what may be said."""
        if number not in self.onward:
            self.onward[number] = [self.number_of_place(self.place_behind(number, said)) for said in SAID]
        return self.onward[number]

    def is_over(self, number):
        """Whether no row goes on from a place."""
        return len(self.places[number]) == 0

    def ways_to_end(self, number):
        """By how many ways the metre's end is come to at a place."""
        return dict(self.places[number]).get(self.end, 0)


def row_to(ways, node):
    """The row that leads to a node, where ways tells of each the one ahead and what is said behind it."""
    backwards = []
    at = node
    while ways[at] is not None:
        backwards.append(ways[at][1])
        at = ways[at][0]
    return list(reversed(backwards))


def nodes_behind(walks, node):
    """The nodes to which one leads, by each of what may be said: in a node each walk has the number of a place."""
    later = [walk.later(number) for walk, number in zip(walks, node)]
    return [tuple([numbers[at] for numbers in later]) for at in range(len(SAID))]


def first_row(walks, is_sought):
    """The first said row that leads to a sought node, or None; no row goes on where the first walk is over."""
    start = (0,) * len(walks)
    ways = {start: None}
    nodes = [start]
    # The nodes of one length after the other, in the order of their first rows, so each is met by its first row.
    while len(nodes) > 0:
        later = []
        for node in nodes:
            for said, reached in zip(SAID, nodes_behind(walks, node)):
                if reached not in ways and not walks[0].is_over(reached[0]):
                    ways[reached] = (node, said)
                    later.append(reached)
                    if is_sought(walks, reached):
                        return row_to(ways, reached)
        nodes = later
    return None


def is_of_first_alone(walks, node):
    """Whether the end is come to in the first walk and not in the second."""
    return walks[0].ways_to_end(node[0]) > 0 and walks[1].ways_to_end(node[1]) == 0


def is_twice(walks, node):
    """Whether the end is come to by two ways."""
    return walks[0].ways_to_end(node[0]) > 1


def metre_within(one, other):
    """The first said row that is of the one metre and not of the other, or None."""
    return first_row([Walk(one, 1), Walk(other, 1)], is_of_first_alone)


def read_twice(metre):
    """The first said row that has two lists of feet in a metre, or None."""
    return first_row([Walk(metre, 2)], is_twice)
