"""What several tests need: Python's own fractions as a second opinion, and kinds looked at."""

from fractions import Fraction


def own(number):
    """The program's fraction as Python's own."""
    return Fraction(number[0], number[1])


def told(number):
    """Python's own fraction as the program tells it."""
    return (number.numerator, number.denominator)


def row(*numbers):
    """A row of the program's fractions: of whole numbers and texts as '1/2'."""
    return tuple(told(Fraction(number)) for number in numbers)


def is_fraction(thing):
    """Whether the thing is a tuple (above, below) as the document tells, of ints that are no truths."""
    return (
        isinstance(thing, tuple)
        and len(thing) == 2
        and all(type(part) is int for part in thing)
        and thing[1] >= 1
        and told(own(thing)) == thing
    )


def is_row(thing, many):
    """Whether the thing is a tuple of so many fractions."""
    return isinstance(thing, tuple) and len(thing) == many and all(is_fraction(part) for part in thing)


def some_fraction(chance, figures=1):
    """A fraction with at most so many figures above and below, 0 and whole ones among them."""
    most = 10 ** figures - 1
    if chance.randrange(4) == 0:
        return (chance.randint(-2, 2), 1)
    return told(Fraction(chance.randint(-most, most), chance.randint(1, most)))
