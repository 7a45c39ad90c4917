"""Feet of a said row in a metre: counted, by their numbers, and their numbers again."""

from lilt.metres import stands_for


def fits(pattern, cut, part):
    """Whether a pattern, behind which a word must end or not, stands for just this part of a said row."""
    if len(part) != len(pattern):
        return False
    if not all([stands_for(sign, said[0]) for sign, said in zip(pattern, part)]):
        return False
    return part[-1][1] or not cut


def are_feet(metre, row, feet):
    """Whether a list of whole numbers is feet of a said row in a metre."""
    if len(feet) != len(metre):
        return False
    start = 0
    for slot, number in zip(metre, feet):
        if not 0 <= number < len(slot[0]):
            return False
        pattern = slot[0][number]
        behind = start + len(pattern)
        if not fits(pattern, slot[1], row[start:behind]):
            return False
        start = behind
    return start == len(row)


def counts_by_pattern(slot, row, start, behind):
    """For each pattern of a slot that begins at this place of a row, how many lists of feet go on with it.

    behind tells for each place, the row's end among them, how many ways the later slots go on from it.
    """
    counts = []
    for pattern in slot[0]:
        place = start + len(pattern)
        counts.append(behind[place] if fits(pattern, slot[1], row[start:place]) else 0)
    return counts


def counts_by_slot(metre, row):
    """For each slot, and behind all of them, the list of how many ways go on from each place of a row."""
    # Behind the last slot nothing of the row may be left.
    behind = [0] * len(row) + [1]
    backwards = [behind]
    for slot in reversed(metre):
        behind = [sum(counts_by_pattern(slot, row, start, behind)) for start in range(len(row) + 1)]
        backwards.append(behind)
    return list(reversed(backwards))


def chosen_by(counts, number):
    """Of choices with so many things each, a tuple of that with the thing of a number, and its number among these."""
    chosen = 0
    rest = number
    while rest >= counts[chosen]:
        rest = rest - counts[chosen]
        chosen = chosen + 1
    return (chosen, rest)


def many_feet(metre, row):
    """How many lists of feet a said row has in a metre."""
    return counts_by_slot(metre, row)[0][0]


def feet_at(metre, row, number):
    """The feet of a number, from 0 and below their count."""
    by_slot = counts_by_slot(metre, row)
    feet = []
    start = 0
    rest = number
    for at, slot in enumerate(metre):
        found = chosen_by(counts_by_pattern(slot, row, start, by_slot[at + 1]), rest)
        feet.append(found[0])
        start = start + len(slot[0][found[0]])
        rest = found[1]
    return feet


def number_of_feet(metre, row, feet):
    """The number of feet of a said row in a metre."""
    by_slot = counts_by_slot(metre, row)
    number = 0
    start = 0
    for at, chosen in enumerate(feet):
        slot = metre[at]
        counts = counts_by_pattern(slot, row, start, by_slot[at + 1])
        number = number + sum(counts[:chosen])
        start = start + len(slot[0][chosen])
    return number


def patterns_of(metre, feet):
    """The texts of the patterns that feet choose, slot by slot."""
    return [slot[0][number] for slot, number in zip(metre, feet)]
