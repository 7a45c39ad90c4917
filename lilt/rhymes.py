"""Rhyme: the ends of words, two words that rhyme, and whether rhyme goes by chains among words."""

from lilt.words import units_of


def end_of(tongue, word):
    """The units of a word from its last one that carries on, or NoWord."""
    units = units_of(tongue, word)
    last = max([at for at, unit in enumerate(units) if tongue.carries(unit[0])])
    return units[last:]


def ends_rhyme(tongue, one, other):
    """Whether two ends are as long, and at each place the same or alike."""
    return len(one) == len(other) and all([tongue.alike(unit, beside) for unit, beside in zip(one, other)])


def rhymes(tongue, one, other):
    """Whether two words rhyme, or NoWord."""
    return ends_rhyme(tongue, end_of(tongue, one), end_of(tongue, other))


def mates_of(tongue, ends, end):
    """The numbers of the ends that rhyme with this one, rising; its own is one of them."""
    return [number for number, other in enumerate(ends) if ends_rhyme(tongue, end, other)]


def first_broken(mates):
    """The first three numbers at which rhyme isn't by chains, or None; mates tells whom each number rhymes with."""
    for one, near in enumerate(mates):
        beside = dict([(number, True) for number in near])
        for middle in near:
            # Most words have just the mates of their mates, which is seen sooner than number by number.
            far = [] if mates[middle] == near else [number for number in mates[middle] if number not in beside]
            if len(far) > 0:
                return (one, middle, far[0])
    return None


def chains_of(tongue, words):
    """Words told as ("classes", lists of numbers), or as ("broken", (i, j, k)); or NoWord."""
    ends = [end_of(tongue, word) for word in words]
    mates = [mates_of(tongue, ends, end) for end in ends]
    broken = first_broken(mates)
    if broken is not None:
        return ("broken", broken)
    return ("classes", [near for number, near in enumerate(mates) if near[0] == number])
