"""Words: their units, their syllables, and the options of saying each of these."""

from lilt.errors import NoWord
from lilt.tongues import is_letter

MOST_LETTERS = 24


def is_word(tongue, thing):
    """Whether any thing is a word of the tongue."""
    if not isinstance(thing, str) or len(thing) > MOST_LETTERS:
        return False
    return all([is_letter(sign) for sign in thing]) and any([tongue.carries(sign) for sign in thing])


def refuse_no_word(tongue, thing):
    """Refuse any thing that is no word."""
    if not is_word(tongue, thing):
        # The thing itself is not shown: it may be any thing, even one that can't be.
        raise NoWord("this is no word of the tongue")


def units_of(tongue, word):
    """The units of a word, read from the left."""
    refuse_no_word(tongue, word)
    units = []
    at = 0
    while at < len(word):
        size = 2 if tongue.is_pair(word[at:at + 2]) else 1
        units.append(word[at:at + size])
        at = at + size
    return units


def carriers_of(tongue, units):
    """The units that carry, in their order."""
    return [unit for unit in units if tongue.carries(unit[0])]


def gaps_of(tongue, units):
    """The stops ahead of each carrier, and last those behind all of them: one text more than carriers."""
    gaps = [""]
    for unit in units:
        if tongue.carries(unit[0]):
            gaps.append("")
        else:
            gaps[-1] = gaps[-1] + unit
    return gaps


def staying(tongue, stops):
    """Those of the stops between two carriers that stay behind the first one."""
    if tongue.splits(stops):
        return ""
    for start in range(len(stops)):
        if tongue.begins(stops[start:]):
            return stops[:start]
    return stops[:-1]


def syllables_of(tongue, word):
    """The syllables of a word, each a tuple (head, carrier, tail, split)."""
    units = units_of(tongue, word)
    carriers = carriers_of(tongue, units)
    gaps = gaps_of(tongue, units)
    syllables = []
    head = gaps[0]
    for carrier, stops in zip(carriers[:-1], gaps[1:-1]):
        tail = staying(tongue, stops)
        syllables.append((head, carrier, tail, tongue.splits(stops)))
        head = stops[len(tail):]
    syllables.append((head, carriers[-1], gaps[-1], False))
    return syllables


def ways_of(tongue, carrier, tail, split):
    """The options of a syllable by itself, where only the stops of this tail count."""
    if tail != "":
        return [(0, "-")]
    weight = tongue.weight(carrier)
    ways = []
    if weight != "-":
        ways.append((0, "u"))
    if weight != "u":
        ways.append((0, "-"))
    if split:
        ways.append((1, "-"))
    return ways


def last_ways(tongue, carrier, tail):
    """The options of a word's last syllable where the next word begins with a letter that carries."""
    if tail != "":
        return ways_of(tongue, carrier, tail[:-1], False)
    if tongue.run() == "must":
        return [None]
    ways = ways_of(tongue, carrier, tail, False)
    if tongue.run() == "may":
        ways.append(None)
    return ways


def options_of(tongue, word, follow):
    """The options of each syllable of a word, where the word follow, or None, comes next."""
    syllables = syllables_of(tongue, word)
    options = [ways_of(tongue, carrier, tail, split) for head, carrier, tail, split in syllables]
    if follow is None:
        return options
    refuse_no_word(tongue, follow)
    if tongue.carries(follow[0]):
        last = syllables[-1]
        options[-1] = last_ways(tongue, last[1], last[2])
    return options
