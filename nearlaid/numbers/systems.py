"""Systems: unknowns whose sums with the rows are the numbers."""

from nearlaid.numbers.fractions import NOUGHT, ONE, common_below, fraction, whole_row
from nearlaid.numbers.rows import noughts, turned, unit


def solved(system, many):
    """("solved", one, free), or ("none", paper), of a system with so many unknowns."""
    lines, by = whole_lines(system)
    lines, leads, lead = cleared(lines, many)
    if any(line[many] != 0 for line in lines[len(leads):]):
        return ("none", paper_of(system, many))
    one = list(noughts(many))
    for line, place in zip(lines, leads):
        # The numbers stand behind the last unknown's column: they are column many.
        one[place] = fraction(line[many], lead * by)
    free = [free_way(lines, leads, lead, column, many) for column in range(many) if column not in leads]
    return ("solved", tuple(one), tuple(free))


def whole_lines(system):
    """Lines of whole numbers, each row with its number behind, and how many times the numbers are taken.

    All numbers are taken equally often: were it done line by line, a long number would make its
    whole line long.
    """
    by = common_below([number for row, number in system])
    lines = []
    for row, (above, below) in system:
        common = common_below(row)
        lines.append([*whole_row(row, common), above * (by // below) * common])
    return lines, by


def cleared(lines, many):
    """The lines cleared until each leading column is nought but in its own line.

    Told are the lines, the leading columns, rising, each led by the line at its place, and the
    leading number, the same in all these lines. A column leads where it is no sum of columns
    ahead of it.
    """
    leads = []
    lead = 1
    for column in range(many):
        at = len(leads)
        found = [k for k in range(at, len(lines)) if lines[k][column] != 0]
        if found:
            first = found[0]
            lines = lines[:at] + [lines[first]] + lines[at:first] + lines[first + 1:]
            lines = column_cleared(lines, at, column, lead)
            lead = lines[at][column]
            leads.append(column)
    return lines, leads, lead


def column_cleared(lines, at, column, before):
    """The lines with the column made nought in each but the one at that place.

    All stays whole: each number is a determinant of numbers of the first lines, so the leading
    number before divides without rest (Bareiss). That spares a search for divisors each time.
    """
    leader = lines[at]
    lead = leader[column]
    cleaned = []
    for k, line in enumerate(lines):
        if k == at:
            cleaned.append(line)
        else:
            by = line[column]
            cleaned.append([(lead * x - by * y) // before for x, y in zip(line, leader)])
    return cleaned


def free_way(lines, leads, lead, column, many):
    """The solution with nought as numbers in which that free unknown is 1, the other free ones 0."""
    way = list(unit(many, column))
    for line, place in zip(lines, leads):
        way[place] = fraction(-line[column], lead)
    return tuple(way)


def paper_of(system, many):
    """So many times each row, of a system without solution: together nought, the numbers 1."""
    # The system turned about has a solution just where this one has none.
    columns = turned([row for row, number in system], many)
    asked = [(column, NOUGHT) for column in columns]
    asked.append((tuple([number for row, number in system]), ONE))
    return solved(tuple(asked), len(system))[1]
