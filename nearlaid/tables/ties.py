"""The nearest weights under ties: pairs (row, number) that their sums have to fulfil."""

from nearlaid.numbers.fractions import product
from nearlaid.numbers.rows import turned
from nearlaid.numbers.systems import solved
from nearlaid.tables.nearest import balanced
from nearlaid.tables.texts import left_of


def nearest_tied(table, ties):
    """("near", weights, what is left, how far, pulls), or ("none", paper)."""
    fulfilled = solved(ties, len(table[0]))
    if fulfilled[0] == "none":
        return fulfilled
    weights, pulls = balanced(table, ties)
    left = left_of(table, weights)
    return ("near", weights, left, product(left, left), pulls)


def ties_hold(ties, weights):
    """Whether the weights fulfil the ties."""
    return all(product(row, weights) == number for row, number in ties)


def tied_shown(table, ties, weights, pulls):
    """Whether the weights fulfil the ties, and the pulls show that none that do are nearer."""
    names, rows, wish = table
    if not ties_hold(ties, weights):
        return False
    left = left_of(table, weights)
    pulled = turned([row for row, number in ties], len(names))
    columns = turned(rows, len(names))
    return all(product(column, left) == product(pull, pulls) for column, pull in zip(columns, pulled))
