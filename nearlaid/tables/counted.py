"""Nearest weights where rows are counted more or less than once, and where there are several wishes."""

from nearlaid.errors import NoRow
from nearlaid.numbers.fractions import product
from nearlaid.numbers.rows import ones, row_times_row
from nearlaid.tables.nearest import nearest, nearest_to, share_of
from nearlaid.tables.sums import counted_sums, shortest
from nearlaid.tables.texts import left_of


def nearest_counted(table, counts):
    """(weights, what is left, how far so) of the shortest of the nearest weights, rows counted so many times."""
    weights = shortest(counted_sums(table, counts))
    left = left_of(table, weights)
    return (weights, left, product(row_times_row(left, counts), left))


def rest_at(table, row, w):
    """What is left of all rows where the one at that place is counted w times, the others once."""
    check_place(table, row)
    counts = ones(len(table[1]))
    return nearest_counted(table, counts[:row] + (w,) + counts[row + 1:])[1]


def rest_of(table, row):
    """(rest, share) of the row: counted w times, rest / (1 + (w - 1) share) is left of it."""
    check_place(table, row)
    return (nearest(table)[1][row], share_of(table, row))


def check_place(table, row):
    """Refuse a place at which the table has no row."""
    if not 0 <= row < len(table[1]):
        raise NoRow("there is no such row")


def several_wishes(table, wishes):
    """What is told of the nearest weights for the table's own wish, then for each of the others."""
    return tuple([nearest_to(table, wish) for wish in (table[2], *wishes)])
