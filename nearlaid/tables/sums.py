"""Sums of products: a tuple (products, pulls, square) of a table's columns and its wish.

They tell the nearest weights without the rows, and rows behind rows just add to them.
"""

from nearlaid.errors import NoSums
from nearlaid.numbers.fractions import NOUGHT, ONE, less, over, plus, product
from nearlaid.numbers.rows import noughts, ones, places_of, row_less, row_plus, row_times, row_times_row, turned
from nearlaid.numbers.systems import solved
from nearlaid.tables.nearest import level_ways
from nearlaid.tables.texts import LETTERS


def sums_of(table):
    """The sums of the table."""
    return counted_sums(table, ones(len(table[1])))


def counted_sums(table, counts):
    """The sums of the table, each row counted so many times."""
    names, rows, wish = table
    columns = turned(rows, len(names))
    counted = [row_times_row(column, counts) for column in columns]
    products = tuple([tuple([product(column, other) for other in columns]) for column in counted])
    pulls = tuple([product(column, wish) for column in counted])
    return (products, pulls, product(row_times_row(wish, counts), wish))


def sums_joined(one, other):
    """The sums of both tables' rows, the one's behind the other's; else NoSums."""
    check_sums(one)
    check_sums(other)
    products = tuple([row_plus(row, added) for row, added in zip(one[0], other[0])])
    return (products, row_plus(one[1], other[1]), plus(one[2], other[2]))


def sums_parted(one, other):
    """The one sums without the other, where a table has such; else NoSums."""
    check_sums(one)
    check_sums(other)
    products = tuple([row_less(row, taken) for row, taken in zip(one[0], other[0])])
    parted = (products, row_less(one[1], other[1]), less(one[2], other[2]))
    check_sums(parted)
    return parted


def by_sums(sums):
    """(weights, how far) of the shortest of the nearest weights; else NoSums."""
    check_sums(sums)
    weights = shortest(sums)
    return (weights, less(sums[2], product(sums[1], weights)))


def shortest(sums):
    """The shortest of the weights that are nearest by a table's sums."""
    products, pulls, square = sums
    # What changes no sum of the table has the product 0 with these rows, and nothing else has.
    ways = level_ways(products, len(products))
    system = list(zip(products, pulls)) + [(way, NOUGHT) for way in ways]
    return solved(tuple(system), len(products))[1]


def far_by(sums, places):
    """How far the nearest sum by the columns of these places alone is, by a table's sums."""
    products, pulls, square = sums
    pulled = places_of(pulls, places)
    system = [(places_of(products[k], places), pulls[k]) for k in places]
    return less(square, product(pulled, solved(tuple(system), len(places))[1]))


def table_of(sums):
    """(counts, table): a table that has the sums where its rows are counted; else NoSums."""
    found = counted_rows(sums)
    rows = tuple([row[:-1] for count, row in found])
    wish = tuple([row[-1] for count, row in found])
    return (tuple([count for count, row in found]), (tuple(LETTERS[:len(sums[1])]), rows, wish))


def check_sums(sums):
    """Refuse sums that no table has."""
    counted_rows(sums)


def counted_rows(sums):
    """Pairs (count, row), each row with its wish behind, that have the sums; NoSums where none have.

    One column after the other is taken off the sums by one row. Where the square of what is then
    left of a column is below 0, or nought while its products are not, no rows have such sums.
    """
    products, pulls, square = sums
    if products != turned(products, len(products)):
        raise NoSums("products that are not the same turned about")
    lines = [*[(*row, pull) for row, pull in zip(products, pulls)], (*pulls, square)]
    found = []
    for k in range(len(pulls) + 1):
        line = lines[k]
        count = line[k]
        if count[0] < 0 or (count == NOUGHT and line != noughts(len(lines))):
            raise NoSums("a square that would come below 0")
        if count != NOUGHT:
            row = row_times(line, over(ONE, count))
            found.append((count, row))
            lines = [row_less(other, row_times(row, other[k])) for other in lines]
    return found
