"""Exact fractions: tuples (above, below) in least numbers, with 1 or more below."""

from nearlaid.errors import NoNumber

NOUGHT = (0, 1)
ONE = (1, 1)

# Python itself refuses to turn very long numbers into text and back, so it is done in parts.
PART_FIGURES = 64
PART = 10 ** 64


def common_divisor(one, other):
    """The greatest whole number that divides both; 0 only of 0 and 0."""
    one, other = abs(one), abs(other)
    while other != 0:
        one, other = other, one % other
    return one


def fraction(above, below):
    """above / below in least numbers."""
    if below == 0:
        raise NoNumber("a fraction with 0 below")
    if below == 1:
        return (above, 1)
    divisor = common_divisor(above, below)
    if below < 0:
        divisor = -divisor
    return (above // divisor, below // divisor)


def plus(one, other):
    """The sum of two fractions."""
    # Alike belows are not multiplied: in long sums they would grow without need.
    if one[1] == other[1]:
        return fraction(one[0] + other[0], one[1])
    return fraction(one[0] * other[1] + other[0] * one[1], one[1] * other[1])


def less(one, other):
    """The one less the other."""
    return plus(one, (-other[0], other[1]))


def times(one, other):
    """The product of two fractions."""
    return fraction(one[0] * other[0], one[1] * other[1])


def over(one, other):
    """The one divided by the other; by 0 refused with NoNumber."""
    return fraction(one[0] * other[1], one[1] * other[0])


def compared(one, other):
    """-1, 0 or 1: the one is less than the other, the same, more."""
    left = one[0] * other[1]
    right = other[0] * one[1]
    if left < right:
        return -1
    if left > right:
        return 1
    return 0


def product(row, other):
    """The sum of the products of two rows, place by place."""
    # Over common belows least numbers are sought once, not at each place: that is most of the work.
    by, other_by = common_below(row), common_below(other)
    total = 0
    for one, two in zip(whole_row(row, by), whole_row(other, other_by)):
        total += one * two
    return fraction(total, by * other_by)


def common_below(row):
    """The least whole number above 0 by which each fraction of the row becomes whole."""
    common = 1
    for above, below in row:
        common = common // common_divisor(common, below) * below
    return common


def whole_row(row, by):
    """The row so many times, by such a number that all become whole."""
    return [above * (by // below) for above, below in row]


def number_shown(one):
    """The fraction in figures: 3, -3/4."""
    above, below = one
    sign = "-" if above < 0 else ""
    whole = sign + figures_shown(abs(above))
    if below == 1:
        return whole
    return whole + "/" + figures_shown(below)


def figures_shown(number):
    """The figures of a whole number, 0 or more, however long."""
    parts = []
    while number >= PART:
        number, low = divmod(number, PART)
        parts.append(f"{low:064d}")
    parts.append(str(number))
    return "".join(parts[::-1])


def read_number(text):
    """The fraction that the text writes, in least numbers or not; else NoNumber."""
    top, bar, bottom = text.removeprefix("-").partition("/")
    above = read_figures(top)
    below = read_figures(bottom) if bar == "/" else 1
    if text.startswith("-"):
        if above == 0:
            raise NoNumber("a sign ahead of 0")
        above = -above
    return fraction(above, below)


def read_figures(text):
    """The whole number, 0 or more, that figures write, without noughts ahead; else NoNumber."""
    # isdigit alone lets by signs of other scripts.
    if not text.isascii() or not text.isdigit():
        raise NoNumber("other signs than figures, or none")
    if text.startswith("0") and text != "0":
        raise NoNumber("a nought ahead")
    first = len(text) % PART_FIGURES
    number = int("0" + text[:first])
    for at in range(first, len(text), PART_FIGURES):
        number = number * PART + int(text[at:at + PART_FIGURES])
    return number
