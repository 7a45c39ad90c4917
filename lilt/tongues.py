"""Tongues: what their told rows say of letters, pairs, clusters and units."""

from lilt.errors import NoRule

LETTERS = "abcdefghijklmnopqrstuvwxyz"
RUNS = ("never", "may", "must")
LEAST_STOPS = 2
MOST_STOPS = 4


def is_letter(text):
    """Whether a text is one letter, a to z."""
    return len(text) == 1 and text in LETTERS


def is_carry_row(row):
    """Whether a row, cut into its words, is a carry row that has its form."""
    return row[0] == "carry" and len(row) > 1 and all([is_letter(word) for word in row[1:]])


def is_pair_of(carrying, word):
    """Whether a word is two letters that carry."""
    return len(word) == 2 and word[0] in carrying and word[1] in carrying


def is_one_row(carrying, row):
    """Whether a row is a one row that has its form, with what carries told already."""
    return row[0] == "one" and len(row) > 1 and all([is_pair_of(carrying, word) for word in row[1:]])


def is_stop(carrying, text):
    """Whether a text is one letter that doesn't carry."""
    return is_letter(text) and text not in carrying


def is_cluster(carrying, word):
    """Whether a word is as many stops as a cluster may have."""
    return LEAST_STOPS <= len(word) <= MOST_STOPS and all([is_stop(carrying, sign) for sign in word])


def are_alike_units(carrying, carriers, words):
    """Whether words are two units that an alike row may tell: both carriers, or both stops."""
    if len(words) != 2:
        return False
    return all([word in carriers for word in words]) or all([is_stop(carrying, word) for word in words])


def is_rule(carrying, pairs, row):
    """Whether a row is one of a tongue's, with what carries and what is a pair told already."""
    kind = row[0]
    words = row[1:]
    carriers = list(carrying) + list(pairs)
    if kind == "carry":
        return is_carry_row(row)
    if kind == "one":
        return is_one_row(carrying, row)
    if kind == "long" or kind == "either":
        return len(words) > 0 and all([word in carriers for word in words])
    if kind == "begin" or kind == "split":
        return len(words) > 0 and all([is_cluster(carrying, word) for word in words])
    if kind == "run":
        return len(words) == 1 and words[0] in RUNS
    return kind == "alike" and are_alike_units(carrying, carriers, words)


def told_behind(kind, rows):
    """All words that stand behind this first word in rows, as the keys of a dict."""
    told = {}
    for row in rows:
        if row[0] == kind:
            for word in row[1:]:
                told[word] = True
    return told


def last_run(rows):
    """What the last run row tells, or never without one."""
    told = "never"
    for row in rows:
        if row[0] == "run":
            told = row[1]
    return told


def told_alike(rows):
    """The two units of each alike row, as the keys of a dict."""
    told = {}
    for row in rows:
        if row[0] == "alike":
            told[(row[1], row[2])] = True
    return told


class Tongue:
    """A tongue told by a list of rows; refused with NoRule at the first row that is none."""

    def __init__(self, rows):
        cut = [row.split(" ") for row in rows]
        # Rules hold in whatever order: what carries, then what is a pair, is gathered ahead of the look at each row.
        self.carrying = told_behind("carry", [row for row in cut if is_carry_row(row)])
        self.pairs = told_behind("one", [row for row in cut if is_one_row(self.carrying, row)])
        for at, row in enumerate(cut):
            if not is_rule(self.carrying, self.pairs, row):
                raise NoRule(at)
        self.longs = told_behind("long", cut)
        self.eithers = told_behind("either", cut)
        self.beginnings = told_behind("begin", cut)
        self.splittings = told_behind("split", cut)
        self.running = last_run(cut)
        self.likes = told_alike(cut)

    def carries(self, letter):
        """Whether a letter carries a syllable."""
        return letter in self.carrying

    def is_pair(self, pair):
        """Whether two letters are read as one."""
        return pair in self.pairs

    def begins(self, cluster):
        """Whether a cluster is told by begin."""
        return cluster in self.beginnings

    def splits(self, cluster):
        """Whether a cluster is told by split."""
        return cluster in self.splittings

    def weight(self, carrier):
        """The weight of a carrier: long "-", short "u", either "x"."""
        if carrier in self.longs:
            return "-"
        if carrier in self.eithers:
            return "x"
        return "u"

    def run(self):
        """What becomes of a carrier that ends a word ahead of another one: "never", "may" or "must"."""
        return self.running

    def alike(self, one, other):
        """Whether two units are the same, or told alike in either order."""
        return one == other or (one, other) in self.likes or (other, one) in self.likes
