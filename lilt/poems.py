"""Poems held against forms: their faults, row by row."""

from lilt.errors import NoName
from lilt.forms import plain_rows, times_of
from lilt.readings import many_readings
from lilt.rhymes import rhymes
from lilt.tables import table_of
from lilt.words import refuse_no_word


def refuse_no_name(metres, form):
    """Refuse a form that names a metre which is not in the dict."""
    for part in form:
        if part[0] == "row" and part[1] not in metres:
            raise NoName("no metre stands by a name in the form")


def plain_rows_of(form, many):
    """The plain rows of a form for those of its times that have just so many, or None where there are none such."""
    # Each time of the stanza adds a row at least, so there is never more than one.
    for times in times_of(form):
        rows = plain_rows(form, times)
        if len(rows) == many:
            return rows
    return None


def rhymes_with(tongue, row, earlier):
    """Whether two rows of a poem rhyme by their last words: one without words rhymes with none."""
    return len(row) > 0 and len(earlier) > 0 and rhymes(tongue, row[-1], earlier[-1])


def earlier_bound(plain, number):
    """The numbers of the plain rows ahead of one that have its bond, rising."""
    bond = plain[number][1]
    return [] if bond is None else [earlier for earlier in range(number) if plain[earlier][1] == bond]


def faults_in(tongue, metres, plain, poem, number):
    """The faults of the row of this number in a poem, of as many rows as the plain ones."""
    row = poem[number]
    told = plain[number]
    back = told[2]
    faults = []
    if many_readings(table_of(tongue, row), metres[told[0]]) == 0:
        faults.append(("metre", number))
    unlike = [earlier for earlier in earlier_bound(plain, number) if not rhymes_with(tongue, row, poem[earlier])]
    if len(unlike) > 0:
        faults.append(("rhyme", number, unlike[0]))
    if back is not None and row != poem[back]:
        faults.append(("again", number, back))
    return faults


def faults_of(tongue, metres, form, poem):
    """The faults of a poem, by a form and a dict of metres by their names; or NoName, else NoWord."""
    refuse_no_name(metres, form)
    for row in poem:
        for word in row:
            refuse_no_word(tongue, word)
    plain = plain_rows_of(form, len(poem))
    if plain is None:
        return [("rows", len(poem))]
    faults = []
    for number in range(len(poem)):
        faults.extend(faults_in(tongue, metres, plain, poem, number))
    return faults
