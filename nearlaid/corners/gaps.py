"""Weights that are nearest by plain gaps, and by the greatest gap; gaps are what is left, without signs."""

from nearlaid.corners.corners import least_corner
from nearlaid.numbers.fractions import NOUGHT, ONE, compared, product
from nearlaid.numbers.rows import noughts, ones, opposite, row_less, row_sum, turned, unit, unsigned
from nearlaid.tables.nearest import is_upright
from nearlaid.tables.texts import left_of


def nearest_plain(table):
    """(weights, how far, paper) with the least sum of gaps."""
    names, rows, wish = table
    many = len(names)
    asked = []
    for at, row in enumerate(rows):
        # What is left of a row is a difference of two numbers, which cost 1 each, and so is each weight.
        gap = unit(len(rows), at)
        asked.append((row + opposite(row) + gap + opposite(gap), wish[at]))
    costs = noughts(2 * many) + ones(2 * len(rows))
    word, numbers, prices = least_corner(costs, tuple(asked))
    return (row_less(numbers[:many], numbers[many:2 * many]), product(costs, numbers), prices)


def nearest_widest(table):
    """(weights, how far, paper) with the least greatest gap."""
    # The paper is sought, as it has fewer rows to fulfil than the weights; these are the prices of its rows.
    names, rows, wish = table
    many = len(rows)
    asked = [(column + opposite(column) + noughts(1), NOUGHT) for column in turned(rows, len(names))]
    asked.append((ones(2 * many + 1), ONE))
    costs = opposite(wish) + wish + noughts(1)
    word, numbers, prices = least_corner(costs, tuple(asked))
    paper = row_less(numbers[:many], numbers[many:2 * many])
    return (opposite(prices[:len(names)]), product(paper, wish), paper)


def plain_shown(table, weights, paper):
    """Whether the paper shows that no weights have a lesser sum of gaps."""
    if any(compared(size, ONE) > 0 for size in unsigned(paper)) or not is_upright(table, paper):
        return False
    return product(paper, table[2]) == row_sum(unsigned(left_of(table, weights)))


def widest_shown(table, weights, paper):
    """Whether the paper shows that no weights have a lesser greatest gap."""
    if compared(row_sum(unsigned(paper)), ONE) > 0 or not is_upright(table, paper):
        return False
    return product(paper, table[2]) == greatest(unsigned(left_of(table, weights)))


def greatest(sizes):
    """The greatest of fractions that are not below 0; of none 0."""
    most = NOUGHT
    for size in sizes:
        if compared(size, most) > 0:
            most = size
    return most
