"""What several tests need: Python's own fractions as a second opinion, and kinds looked at."""

from fractions import Fraction


def own(number):
    """The program's fraction as Python's own."""
    return Fraction(number[0], number[1])


def told(number):
    """Python's own fraction as the program tells it."""
    return (number.numerator, number.denominator)


def row(*numbers):
    """A row of the program's fractions: of whole numbers and texts as '1/2'."""
    return tuple(told(Fraction(number)) for number in numbers)


def system(*lines):
    """A system of lines of numbers, in each the last the row's number; ties are such, too."""
    return tuple((row(*line[:-1]), row(line[-1])[0]) for line in lines)


def is_fraction(thing):
    """Whether the thing is a tuple (above, below) as the document tells, of ints that are no truths."""
    return (
        isinstance(thing, tuple)
        and len(thing) == 2
        and all(type(part) is int for part in thing)
        and thing[1] >= 1
        and told(own(thing)) == thing
    )


def is_row(thing, many):
    """Whether the thing is a tuple of so many fractions."""
    return isinstance(thing, tuple) and len(thing) == many and all(is_fraction(part) for part in thing)


def some_fraction(chance, figures=1):
    """A fraction with at most so many figures above and below, 0 and whole ones among them."""
    most = 10 ** figures - 1
    if chance.randrange(4) == 0:
        return (chance.randint(-2, 2), 1)
    return told(Fraction(chance.randint(-most, most), chance.randint(1, most)))


def sum_with(line, numbers):
    """The sum of the products, place by place, as Python's own fraction."""
    return sum((own(a) * own(b) for a, b in zip(line, numbers)), Fraction(0))


def turned(lines, many):
    """The columns of lines that have so many places."""
    return [tuple(line[k] for line in lines) for k in range(many)]


def rank(columns):
    """How many of the columns, of Python's own fractions, are no sums of those ahead."""
    kept = []
    for column in columns:
        rest = list(column)
        for at, base in kept:
            by = rest[at]
            rest = [x - by * y for x, y in zip(rest, base)]
        for at, x in enumerate(rest):
            if x != 0:
                kept.append((at, [y / x for y in rest]))
                break
    return len(kept)


def free_places(lines, many):
    """The places whose columns are sums of columns ahead, by the document's own words."""
    columns = [[own(x) for x in column] for column in turned(lines, many)]
    return [k for k in range(many) if rank(columns[:k + 1]) == rank(columns[:k])]


def some_row(chance, many, figures=1):
    """A row of so many fractions."""
    return tuple(some_fraction(chance, figures) for k in range(many))


def mixed(rows, numbers, many):
    """The sum of the rows, each so many times, of so many places."""
    return tuple(told(sum_with(column, numbers)) for column in turned(rows, many))


def some_rows(chance, many, places, figures=1):
    """So many rows, among them ones that are nought, alike, or sums of those ahead."""
    rows = []
    for k in range(many):
        kind = chance.randrange(6)
        if kind == 0:
            rows.append(row(*[0] * places))
        elif kind == 1 and rows:
            rows.append(chance.choice(rows))
        elif kind == 2 and rows:
            rows.append(mixed(rows, some_row(chance, len(rows)), places))
        else:
            rows.append(some_row(chance, places, figures))
    return tuple(rows)


def some_table(chance, columns, rows, figures=1):
    """A table with so many columns and rows, among the columns ones as some_rows tells."""
    lines = tuple(turned(some_rows(chance, columns, rows, figures), rows))
    return (tuple("abcdef"[:columns]), lines, some_row(chance, rows, figures))


def changed(line, at, by=(1, 1)):
    """The row with so much put to one place."""
    return line[:at] + (told(own(line[at]) + own(by)),) + line[at + 1:]


def some_ties(chance, many, weights, figures=1):
    """So many ties that the weights fulfil, but for one time in four."""
    lines = some_rows(chance, many, len(weights), figures)
    numbers = tuple(told(sum_with(line, weights)) for line in lines)
    if numbers and chance.randrange(4) == 0:
        numbers = changed(numbers, chance.randrange(many))
    return tuple(zip(lines, numbers))


def bounds_of(*pairs):
    """Bounds of pairs of numbers, or None."""
    return tuple(tuple(None if end is None else row(end)[0] for end in pair) for pair in pairs)


def some_bounds(chance, many, figures=1):
    """Bounds of all kinds."""
    pairs = []
    for k in range(many):
        low, high = sorted((some_fraction(chance, figures), some_fraction(chance, figures)), key=own)
        pairs.append(((None, None), (low, None), (None, high), (low, high), (low, low))[chance.randrange(5)])
    return tuple(pairs)


def own_left(table, weights):
    """What is left of the weights, by Python's own fractions."""
    return tuple(told(own(w) - sum_with(line, weights)) for line, w in zip(table[1], table[2]))
