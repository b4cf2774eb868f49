"""Systems: unknowns whose sums with the rows are the numbers."""

from nearlaid.numbers.fractions import NOUGHT, ONE, common_divisor, fraction


def solved(system, many):
    """("solved", one, free), or ("none", paper), of a system with so many unknowns."""
    lines, leads, lead = cleared([whole_line(row, number) for row, number in system], many)
    if any(line[many] != 0 for line in lines[len(leads):]):
        return ("none", paper_of(system, many))
    # The numbers stand behind the last unknown's column: they are column many.
    one = led([NOUGHT] * many, lines, leads, lead, many)
    free = []
    for column in range(many):
        if column not in leads:
            unit = [NOUGHT] * column + [ONE] + [NOUGHT] * (many - column - 1)
            free.append(led(unit, lines, leads, -lead, column))
    return ("solved", one, tuple(free))


def whole_line(row, number):
    """The row and behind it the number, so many times that all are whole numbers."""
    common = number[1]
    for above, below in row:
        common = common // common_divisor(common, below) * below
    return [above * (common // below) for above, below in [*row, number]]


def cleared(lines, many):
    """The lines cleared until each leading column is nought but in its own line.

    Told are the lines, the leading columns, rising, each led by the line at its place, and the
    leading number, the same in all these lines. A column leads where it is no sum of columns
    ahead of it.
    """
    leads = []
    lead = 1
    for column in range(many):
        at = len(leads)
        found = [k for k in range(at, len(lines)) if lines[k][column] != 0]
        if found:
            first = found[0]
            lines = lines[:at] + [lines[first]] + lines[at:first] + lines[first + 1:]
            lines = column_cleared(lines, at, column, lead)
            lead = lines[at][column]
            leads.append(column)
    return lines, leads, lead


def column_cleared(lines, at, column, before):
    """The lines with the column made nought in each but the one at that place.

    All stays whole: each number is a determinant of numbers of the first lines, so the leading
    number before divides without rest (Bareiss). That spares a search for divisors each time.
    """
    leader = lines[at]
    lead = leader[column]
    cleaned = []
    for k, line in enumerate(lines):
        if k == at:
            cleaned.append(line)
        else:
            by = line[column]
            cleaned.append([(lead * x - by * y) // before for x, y in zip(line, leader)])
    return cleaned


def led(numbers, lines, leads, lead, column):
    """The numbers, but at the leading places the column's own, divided by the leading number."""
    told = list(numbers)
    for line, place in zip(lines, leads):
        told[place] = fraction(line[column], lead)
    return tuple(told)


def paper_of(system, many):
    """So many times each row, of a system without solution: together nought, the numbers 1."""
    # The system turned about has a solution just where this one has none.
    turned = [(tuple([row[k] for row, number in system]), NOUGHT) for k in range(many)]
    turned.append((tuple([number for row, number in system]), ONE))
    return solved(tuple(turned), len(system))[1]
