"""Rows of fractions, as wholes."""

from nearlaid.numbers.fractions import NOUGHT, ONE, less, plus, times


def noughts(many):
    """A row of so many noughts."""
    return (NOUGHT,) * many


def unit(many, at):
    """A row of noughts, but with 1 at that place."""
    return noughts(at) + (ONE,) + noughts(many - at - 1)


def row_plus(row, other):
    """The sums of two rows, place by place."""
    return tuple([plus(one, two) for one, two in zip(row, other)])


def row_less(row, other):
    """The one row less the other, place by place."""
    return tuple([less(one, two) for one, two in zip(row, other)])


def row_times(row, by):
    """The row so many times."""
    return tuple([times(one, by) for one in row])


def turned(rows, many):
    """The columns of rows that have so many places."""
    return tuple([tuple([row[k] for row in rows]) for k in range(many)])
