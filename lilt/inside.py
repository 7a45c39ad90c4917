"""Forms held against one another: the first fault of one by another."""

from lilt.forms import plain_rows, times_of
from lilt.poems import earlier_bound, plain_rows_of, refuse_no_name
from lilt.within import metre_within


def first_of(plain, number):
    """The number of the plain row that a return names, or a row's own: one number for all rows that are the same."""
    back = plain[number][2]
    return number if back is None else back


def are_same(plain, one, other):
    """Whether two plain rows are the same, by their numbers."""
    return first_of(plain, one) == first_of(plain, other)


def are_bound(plain, one, other):
    """Whether two plain rows are bound, by their numbers."""
    # Of rows that are the same, the one that is no return alone may have a bond.
    bond = plain[first_of(plain, one)][1]
    return are_same(plain, one, other) or (bond is not None and bond == plain[first_of(plain, other)][1])


def said_between(metres, known, one, other):
    """What metre_within tells of the metres of two names; known keeps what was told, since names come many times."""
    if (one, other) not in known:
        known[(one, other)] = metre_within(metres[one], metres[other])
    return known[(one, other)]


def fault_in(metres, known, one, other, number):
    """The first fault of the row of this number in plain rows, by as many other ones, or None."""
    many = len(one)
    back = other[number][2]
    said = said_between(metres, known, one[number][0], other[number][0])
    if said is not None:
        return ("metre", many, number, said)
    free = [earlier for earlier in earlier_bound(other, number) if not are_bound(one, number, earlier)]
    if len(free) > 0:
        return ("rhyme", many, number, free[0])
    if back is not None and not are_same(one, number, back):
        return ("again", many, number, back)
    return None


def form_within(one, other, metres):
    """The first fault of the one form by the other, by a dict of metres by their names, or None; or NoName."""
    refuse_no_name(metres, one)
    refuse_no_name(metres, other)
    known = {}
    for times in times_of(one):
        plain = plain_rows(one, times)
        beside = plain_rows_of(other, len(plain))
        if beside is None:
            return ("rows", len(plain))
        for number in range(len(plain)):
            fault = fault_in(metres, known, plain, beside, number)
            if fault is not None:
                return fault
    return None
