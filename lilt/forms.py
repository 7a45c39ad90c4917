"""Forms: their texts read and written, how many times their stanza may come, and their plain rows."""

from lilt.errors import NoForm
from lilt.tongues import LETTERS, is_letter

PARTING = "; "
MOST_SIGNS = 8
MOST_ROWS = 12
NO_BOND = "-"
LOWS = ("0", "1", "2", "3", "4")
HIGHS = ("1", "2", "3", "4")
OPENING = ("(",)


def is_name(text):
    """Whether a text is a name, of one to eight small letters."""
    return 1 <= len(text) <= MOST_SIGNS and all([sign in LETTERS for sign in text])


def is_bond(text):
    """Whether a text is a row's bond: none, or one letter, small or great."""
    return text == NO_BOND or is_letter(text) or (len(text) == 1 and text in LETTERS.upper())


def is_row_number(text):
    """Whether a text is the number of a row in figures, of as many as there may be."""
    return text in [str(number) for number in range(1, MOST_ROWS + 1)]


def read_ending(low, high):
    """The part where a stanza ends, by its two numbers in figures, or None where they are not as told."""
    if low not in LOWS or high not in HIGHS or int(high) < int(low):
        return None
    return (")", int(low), int(high))


def read_part(text):
    """The part that a text writes, whatever stands ahead of it, or None where it writes none."""
    words = text.split(" ")
    if words == ["("]:
        return OPENING
    if len(words) == 3 and words[0] == ")":
        return read_ending(words[1], words[2])
    if len(words) != 2:
        return None
    if words[0] == "as" and is_row_number(words[1]):
        return ("as", int(words[1]))
    if is_name(words[0]) and is_bond(words[1]):
        return ("row", words[0], None if words[1] == NO_BOND else words[1])
    return None


def cut_form(form):
    """The rows and returns ahead of the stanza, in it and behind it: three lists of tuples (number, part)."""
    lists = [[], [], []]
    where = 0
    number = 0
    for part in form:
        if part[0] == "(" or part[0] == ")":
            where = where + 1
        else:
            number = number + 1
            lists[where].append((number, part))
    return lists


def ending_of(form):
    """The part where the stanza ends, or None where there is none."""
    endings = [part for part in form if part[0] == ")"]
    return endings[0] if len(endings) > 0 else None


def is_open(form):
    """Whether a stanza has begun and not ended."""
    return OPENING in form and ending_of(form) is None


def names_row(form, number):
    """Whether a return behind these parts may name the row of this number."""
    cut = cut_form(form)
    ending = ending_of(form)
    # Behind a stanza that may come no times, its rows may not be there.
    inside = [] if ending is not None and ending[1] == 0 else cut[1]
    return any([told == number and part[0] == "row" for told, part in cut[0] + inside + cut[2]])


def goes_on(form, part):
    """Whether a form may go on with a part behind these."""
    if part == OPENING:
        return OPENING not in form
    if part[0] == ")":
        return is_open(form) and form[-1] != OPENING
    if sum([len(rows) for rows in cut_form(form)]) == MOST_ROWS:
        return False
    return part[0] == "row" or names_row(form, part[1])


def read_form(text):
    """The form that a text writes, or NoForm."""
    texts = text.split(PARTING)
    form = []
    for at, written in enumerate(texts):
        part = read_part(written)
        if part is None or not goes_on(form, part):
            raise NoForm(at)
        form.append(part)
    if is_open(form):
        raise NoForm(len(texts))
    return tuple(form)


def written_part(part):
    """The text of a part."""
    if part[0] == "row":
        return part[1] + " " + (NO_BOND if part[2] is None else part[2])
    return " ".join([str(told) for told in part])


def written_form(form):
    """The text of a form."""
    return PARTING.join([written_part(part) for part in form])


def times_of(form):
    """How many times the stanza may come, rising; 1 alone where there is no stanza."""
    ending = ending_of(form)
    return [1] if ending is None else list(range(ending[1], ending[2] + 1))


def coming(form, times):
    """All rows and returns as they come, tuples (number, part, turn); turn is the stanza's time, or 0 outside."""
    cut = cut_form(form)
    come = [(number, part, 0) for number, part in cut[0]]
    for turn in range(1, times + 1):
        come.extend([(number, part, turn) for number, part in cut[1]])
    return come + [(number, part, 0) for number, part in cut[2]]


def bond_in(letter, turn):
    """The bond of a plain row: a small letter is another one in each of the stanza's times, a great one is not."""
    if letter is None:
        return None
    return (letter, turn if is_letter(letter) else 0)


def plain_rows(form, times):
    """The plain rows for one of a form's times, tuples (metre, bond, back)."""
    plain = []
    became = {}
    for number, part, turn in coming(form, times):
        if part[0] == "row":
            # Each of the stanza's times goes over the one before, so a return behind it finds the last.
            became[number] = len(plain)
            plain.append((part[1], bond_in(part[2], turn), None))
        else:
            back = became[part[1]]
            plain.append((plain[back][0], None, back))
    return plain
