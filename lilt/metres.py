"""Metres: their texts read and written, their states, and how they move on by a mark."""

from lilt.errors import NoMetre

MOST_SLOTS = 12
MOST_PATTERNS = 4
MOST_MARKS = 4
PATTERN_MARKS = "u-x"
START = (0, 0, 0)


def is_pattern(text):
    """Whether a text is a pattern."""
    return 1 <= len(text) <= MOST_MARKS and all([sign in PATTERN_MARKS for sign in text])


def are_patterns(texts):
    """Whether a tuple of texts is the patterns of a slot."""
    if len(texts) > MOST_PATTERNS or len(set(texts)) != len(texts):
        return False
    return all([is_pattern(text) for text in texts])


def read_metre(text):
    """The metre that a text writes, or NoMetre."""
    slots = []
    # Each beginning of a metre that ends with a whole word is a metre too, so a fault is seen at its own word.
    for at, word in enumerate(text.split(" ")):
        patterns = tuple(word.split("/"))
        if word == "|" and len(slots) > 0 and not slots[-1][1]:
            slots[-1] = (slots[-1][0], True)
        elif are_patterns(patterns) and len(slots) < MOST_SLOTS:
            slots.append((patterns, False))
        else:
            raise NoMetre(at)
    return tuple(slots)


def written_slot(slot):
    """The text of a slot."""
    written = "/".join(slot[0])
    return written + " |" if slot[1] else written


def written_metre(metre):
    """The text of a metre."""
    return " ".join([written_slot(slot) for slot in metre])


def end_state(metre):
    """The state behind all slots."""
    return (len(metre), 0, 0)


def states_of(metre):
    """Each state from which a metre may move on: all but its end."""
    states = []
    for slot, told in enumerate(metre):
        states.append((slot, 0, 0))
        for number, pattern in enumerate(told[0]):
            states.extend([(slot, number, at) for at in range(1, len(pattern))])
    return states


def stands_for(sign, mark):
    """Whether a pattern's sign stands for a mark that is said."""
    return sign == mark or sign == "x"


def state_behind(metre, state, ends):
    """The state behind the next mark of the state's pattern, or None where a cut forbids it."""
    slot = state[0]
    behind = state[2] + 1
    if behind < len(metre[slot][0][state[1]]):
        return (slot, state[1], behind)
    if metre[slot][1] and not ends:
        return None
    return (slot + 1, 0, 0)


def moves_of(metre, state, mark, ends):
    """How a metre moves on from a state by a mark: a list of tuples (pattern, state)."""
    if state == end_state(metre):
        return []
    slot = state[0]
    at = state[2]
    patterns = metre[slot][0]
    numbers = list(range(len(patterns))) if at == 0 else [state[1]]
    moves = []
    for number in numbers:
        reached = state_behind(metre, (slot, number, at), ends)
        if reached is not None and stands_for(patterns[number][at], mark):
            moves.append((number, reached))
    return moves
