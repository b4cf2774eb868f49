"""The nearest weights, and the shortest of them."""

from nearlaid.numbers.fractions import NOUGHT, ONE, less, product
from nearlaid.numbers.rows import noughts, row_less, turned, unit
from nearlaid.numbers.systems import solved
from nearlaid.tables.texts import left_of


def nearest(table):
    """(weights, what is left, how far) of the shortest of the nearest weights."""
    return nearest_to(table, table[2])


def nearest_to(table, wish):
    """As nearest tells, but with another wish in the place of the table's own."""
    names, rows, own_wish = table
    wished = (names, rows, wish)
    weights, pulls = balanced(wished, ())
    left = left_of(wished, weights)
    return (weights, left, product(left, left))


def share_of(table, at):
    """What the nearest weights' sum with the row at that place grows by where its wish grows by 1."""
    left = nearest_to(table, unit(len(table[1]), at))[1]
    return less(ONE, left[at])


def flat_ways(table):
    """The weights that change no sum: for each column that is a sum of those ahead, one."""
    names, rows, wish = table
    return level_ways(rows, len(names))


def level_ways(rows, many):
    """What has the sum 0 with each row of so many places, as a system tells its free unknowns."""
    return solved(tuple([(row, NOUGHT) for row in rows]), many)[2]


def balanced(table, ties):
    """The shortest of the weights that are nearest under ties, which some fulfil, and pulls."""
    names, rows, wish = table
    many = len(names)
    tied = [row for row, number in ties]
    system = []
    for k, column in enumerate(turned(rows, many)):
        products = [product(column, other) for other in turned(rows, many)]
        system.append(((*products, *[row[k] for row in tied]), product(column, wish)))
    no_pulls = noughts(len(ties))
    system += [(row + no_pulls, number) for row, number in ties]
    # Nearest weights differ by ways that change neither sums nor ties: upright to these they are shortest.
    system += [(way + no_pulls, NOUGHT) for way in level_ways([*rows, *tied], many)]
    one = solved(tuple(system), many + len(ties))[1]
    return one[:many], one[many:]


def is_nearest(table, weights):
    """Whether the weights are nearest: what is left is upright to each column."""
    return is_upright(table, left_of(table, weights))


def is_upright(table, numbers):
    """Whether the numbers, one for each row, have the product 0 with each column."""
    names, rows, wish = table
    return all(product(column, numbers) == NOUGHT for column in turned(rows, len(names)))


def farther(table, weights):
    """By how much the weights are farther than the nearest."""
    names, rows, wish = table
    difference = row_less(weights, nearest(table)[0])
    moved = [product(row, difference) for row in rows]
    return product(moved, moved)
