"""Corner questions: numbers, none below 0, that solve a system with the least costs.

They are sought from corner to corner. Lines hold the rows of the system, each with its number
behind, solved for the unknowns of a base, one for each row; the last line holds what one more of
each unknown would cost. All are whole numbers, as many times too great as the lead says. A row has
a helper in the base until an unknown takes its place; helpers are numbered behind the unknowns.
"""

from nearlaid.numbers.fractions import NOUGHT, ONE, common_below, compared, fraction, product, whole_row
from nearlaid.numbers.rows import noughts, turned, unit
from nearlaid.numbers.systems import column_cleared, solved, whole_lines


def least_corner(costs, rows):
    """("least", numbers, prices), ("none", prices) or ("endless", numbers, way)."""
    many = len(costs)
    lines, by = whole_lines(rows)
    lines = [[-x for x in line] if line[many] < 0 else line for line in lines]
    # First the helpers cost 1 each and nothing else does, until they are nought or cannot become so.
    helped = [-sum([line[k] for line in lines]) for k in range(many + 1)]
    lines = [*lines, [*whole_row(costs, common_below(costs)), 0], helped]
    lines, base, lead, column = walked(lines, [many + at for at in range(len(rows))], 1, many)
    if lines[-1][many] != 0:
        return ("none", none_prices(rows, base, many))
    lines, base, lead = helpers_out(lines[:-1], base, lead, many)
    lines, base, lead, column = walked(lines, base, lead, many)
    numbers = of_base(base, [fraction(line[many], lead * by) for line in lines[:-1]], many)
    if column is None:
        return ("least", numbers, least_prices(costs, rows, base))
    changes = [fraction(-line[column], lead) for line in lines[:-1]]
    return ("endless", numbers, of_base([*base, column], [*changes, ONE], many))


def walked(lines, base, lead, many):
    """From corner to corner, each no dearer than the one before; ends at one from which none is cheaper.

    Told are the lines, base and lead there, and None, or the unknown that makes it ever cheaper.
    """
    while True:
        column = entering(lines[-1], many)
        if column is None:
            return lines, base, lead, None
        at = leaving(lines, base, column, many)
        if at is None:
            return lines, base, lead, column
        lines, lead = exchanged(lines, at, column, lead)
        base = [*base[:at], column, *base[at + 1:]]


def entering(costs, many):
    """The first unknown of which one more costs less than 0, or None."""
    # Always the first, here and of those that leave: else it could come round to the same base (Bland).
    for column in range(many):
        if costs[column] < 0:
            return column
    return None


def leaving(lines, base, column, many):
    """The line whose base number is the first to reach 0 where the column's rises, or None."""
    found = None
    for at in range(len(base)):
        if lines[at][column] > 0:
            order = -1 if found is None else sooner(lines[at], lines[found], column, many)
            if order < 0 or (order == 0 and base[at] < base[found]):
                found = at
    return found


def sooner(line, other, column, many):
    """Below 0, 0 or above 0: the line reaches 0 ahead of the other, with it, behind it."""
    return line[many] * other[column] - other[many] * line[column]


def exchanged(lines, at, column, lead):
    """The lines, solved for the column's unknown in the line at that place, and the new lead."""
    lines = column_cleared(lines, at, column, lead)
    lead = lines[at][column]
    if lead < 0:
        return [[-x for x in line] for line in lines], -lead
    return lines, lead


def helpers_out(lines, base, lead, many):
    """Lines, base and lead without helpers, but for those of rows that are sums of other rows."""
    for at in range(len(base)):
        found = [column for column in range(many) if lines[at][column] != 0]
        if base[at] >= many and found:
            lines, lead = exchanged(lines, at, found[0], lead)
            base = [*base[:at], found[0], *base[at + 1:]]
    return lines, base, lead


def of_base(base, numbers, many):
    """A row of so many places with the base's numbers at theirs, and noughts."""
    told = list(noughts(many))
    for place, number in zip(base, numbers):
        if place < many:
            told[place] = number
    return tuple(told)


def least_prices(costs, rows, base):
    """Prices by which each unknown of the base costs just what its column does."""
    columns = turned([row for row, number in rows], len(costs))
    asked = [(columns[place], costs[place]) for place in base if place < len(costs)]
    return solved(tuple(asked), len(rows))[1]


def none_prices(rows, base, many):
    """Prices by which the unknowns of the base cost nothing, and its helpers 1."""
    columns = turned([row for row, number in rows], many)
    asked = []
    for place in base:
        if place < many:
            asked.append((columns[place], NOUGHT))
        else:
            row, number = rows[place - many]
            # The helper counts in its line, which is so many times the row.
            by = -common_below(row) if number[0] < 0 else common_below(row)
            asked.append((unit(len(rows), place - many), (by, 1)))
    return solved(tuple(asked), len(rows))[1]


def corner_shown(costs, rows, told):
    """Whether what is told of the corner question holds."""
    if told[0] == "least":
        word, numbers, prices = told
        return least_shown(costs, rows, numbers, prices)
    if told[0] == "none":
        word, prices = told
        return none_shown(rows, prices, len(costs))
    word, numbers, way = told
    level = [(row, NOUGHT) for row, number in rows]
    return solves(rows, numbers) and solves(level, way) and product(costs, way)[0] < 0


def least_shown(costs, rows, numbers, prices):
    """Whether the numbers are let, and the prices show that none cost less."""
    columns = turned([row for row, number in rows], len(costs))
    if any(compared(product(prices, column), cost) > 0 for column, cost in zip(columns, costs)):
        return False
    asked = [number for row, number in rows]
    return solves(rows, numbers) and product(costs, numbers) == product(prices, asked)


def none_shown(rows, prices, many):
    """Whether the prices show that the rows, of so many unknowns, have no numbers that are let."""
    columns = turned([row for row, number in rows], many)
    if any(product(prices, column)[0] > 0 for column in columns):
        return False
    return product(prices, [number for row, number in rows])[0] > 0


def solves(rows, numbers):
    """Whether the numbers solve the rows, none of them below 0."""
    if any(above < 0 for above, below in numbers):
        return False
    return all(product(row, numbers) == number for row, number in rows)
