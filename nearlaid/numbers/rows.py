"""Rows of fractions, as wholes."""

from nearlaid.numbers.fractions import NOUGHT, ONE, less, plus, product, times


def noughts(many):
    """A row of so many noughts."""
    return (NOUGHT,) * many


def ones(many):
    """A row of so many ones."""
    return (ONE,) * many


def unit(many, at):
    """A row of noughts, but with 1 at that place."""
    return noughts(at) + (ONE,) + noughts(many - at - 1)


def row_plus(row, other):
    """The sums of two rows, place by place."""
    return tuple([plus(one, two) for one, two in zip(row, other)])


def row_less(row, other):
    """The one row less the other, place by place."""
    return tuple([less(one, two) for one, two in zip(row, other)])


def row_times(row, by):
    """The row so many times."""
    return tuple([times(one, by) for one in row])


def row_times_row(row, other):
    """The products of two rows, place by place."""
    return tuple([times(one, two) for one, two in zip(row, other)])


def opposite(row):
    """The row with all signs turned."""
    return tuple([(-above, below) for above, below in row])


def unsigned(row):
    """The row without signs."""
    return tuple([(abs(above), below) for above, below in row])


def row_sum(row):
    """The sum of all places."""
    return product(row, ones(len(row)))


def turned(rows, many):
    """The columns of rows that have so many places."""
    return tuple([tuple([row[k] for row in rows]) for k in range(many)])


def places_of(row, places):
    """Those places of the row alone, in their order."""
    return tuple([row[k] for k in places])
