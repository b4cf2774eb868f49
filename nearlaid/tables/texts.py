"""Tables written and read, what is left of weights, and how far they are.

A table is a tuple (names, rows, wish): a name for each column, a row of fractions and a fraction
of the wish for each row.
"""

from nearlaid.errors import NoNumber, NoTable
from nearlaid.numbers.fractions import less, number_shown, product, read_number

LETTERS = "abcdefghijklmnopqrstuvwxyz"
LONGEST_NAME = 8


def is_name(word):
    """Whether the word is one to eight small letters."""
    return 1 <= len(word) <= LONGEST_NAME and all(sign in LETTERS for sign in word)


def are_names(words):
    """Whether all words are names, none of them twice."""
    return all(is_name(word) for word in words) and len(set(words)) == len(words)


def without_sign(words, many):
    """The words but the sign = behind so many, with one behind it; None where they are not such."""
    if len(words) != many + 2 or words[many] != "=":
        return None
    return [*words[:many], words[-1]]


def read_table(text):
    """The table that the text writes; else NoTable with the first line that is none."""
    lines = text.split("\n")
    names = read_head(lines[0])
    rows = []
    wish = []
    for at in range(1, len(lines)):
        numbers = read_line(lines[at], len(names), at)
        rows.append(tuple(numbers[:-1]))
        wish.append(numbers[-1])
    return (names, tuple(rows), tuple(wish))


def read_head(line):
    """The names that the first line writes; else NoTable."""
    words = line.split(" ")
    names = words[:-1]
    if words[-1] != "=" or not are_names(names):
        raise NoTable(0)
    return tuple(names)


def read_line(line, many, at):
    """A row's fractions, so many, and the wish's behind them, that the line writes; else NoTable."""
    words = without_sign(line.split(" "), many)
    if words is None:
        raise NoTable(at)
    try:
        return [read_number(word) for word in words]
    except NoNumber:
        raise NoTable(at) from None


def table_shown(table):
    """The table's text."""
    names, rows, wish = table
    lines = [[*names, "="]]
    for row, wished in zip(rows, wish):
        lines.append([*[number_shown(one) for one in row], "=", number_shown(wished)])
    return "\n".join([" ".join(words) for words in lines])


def left_of(table, weights):
    """What is left of the weights: for each row the wish less their sum with it."""
    names, rows, wish = table
    return tuple([less(wished, product(row, weights)) for row, wished in zip(rows, wish)])


def far_of(table, weights):
    """How far the weights are: the sum of the squares of what is left."""
    left = left_of(table, weights)
    return product(left, left)
