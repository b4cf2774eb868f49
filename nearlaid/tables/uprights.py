"""Columns made upright one by one, and what each of them brings."""

from nearlaid.numbers.fractions import NOUGHT, less, over, product
from nearlaid.numbers.rows import row_less, row_plus, row_times, turned
from nearlaid.tables.sums import far_by, sums_of


def uprights(table):
    """For each column a pair (upright, parts): its part upright to all ahead, how much it has of theirs."""
    names, rows, wish = table
    pairs = []
    for column in turned(rows, len(names)):
        upright = column
        parts = []
        for ahead, ahead_parts in pairs:
            part = part_of(column, ahead)
            parts.append(part)
            upright = row_less(upright, row_times(ahead, part))
        pairs.append((upright, tuple(parts)))
    return tuple(pairs)


def part_of(column, upright):
    """How much of an upright part the column has; 0 of one that is nought."""
    square = product(upright, upright)
    if square == NOUGHT:
        return NOUGHT
    return over(product(column, upright), square)


def put_together(pairs):
    """The columns that such pairs were made of."""
    columns = []
    for upright, parts in pairs:
        column = upright
        for (ahead, ahead_parts), part in zip(pairs, parts):
            column = row_plus(column, row_times(ahead, part))
        columns.append(column)
    return tuple(columns)


def brings(table, order):
    """By how much each column, in that order of places, comes nearer than those ahead of it do."""
    sums = sums_of(table)
    fars = [far_by(sums, order[:many]) for many in range(len(order) + 1)]
    return tuple([less(one, other) for one, other in zip(fars, fars[1:])])
