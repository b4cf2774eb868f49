"""The desk: a table with ties and bounds, built and asked by lines."""

from nearlaid.choices.few import best_choices
from nearlaid.corners.bounds import nearest_bound
from nearlaid.corners.gaps import nearest_plain, nearest_widest
from nearlaid.errors import NoAsk, NoBound, NoName, NoNumber, TooMany
from nearlaid.kept import Kept
from nearlaid.numbers.fractions import compared, number_shown, read_figures, read_number
from nearlaid.tables.texts import are_names, is_name, table_shown, without_sign
from nearlaid.tables.uprights import brings

MOST_COLUMNS = 6
MOST_ROWS = 10
MOST_TIES = 4
NO_BOUND = (None, None)


def columns_anew(desk, words):
    """columns NAME ..: all is anew."""
    if not are_names(words):
        raise NoAsk("names that are none, or one twice")
    if len(words) > MOST_COLUMNS:
        raise TooMany("one column more than may be kept")
    desk.kept = Kept(tuple(words))
    desk.ties = ()
    desk.bounds = {}
    return []


def row_put(desk, words):
    """row NUMBER .. = NUMBER: a row is put in, its number is told."""
    row, wish = read_sum(desk, words)
    if len(desk.kept.numbers()) >= MOST_ROWS:
        raise TooMany("one row more than may be kept")
    return [str(desk.kept.put_row(row, wish))]


def row_dropped(desk, words):
    """drop N: the row is taken out."""
    check_many(words, 1)
    desk.kept.take_row(read_place(words[0]))
    return []


def wish_changed(desk, words):
    """wish N NUMBER: the row's wish is changed."""
    check_many(words, 2)
    number = read_place(words[0])
    desk.kept.change_wish(number, read_number(words[1]))
    return []


def tie_put(desk, words):
    """tie NUMBER .. = NUMBER: a tie is put behind the others."""
    tie = read_sum(desk, words)
    if len(desk.ties) >= MOST_TIES:
        raise TooMany("one tie more than may be kept")
    desk.ties = (*desk.ties, tie)
    return []


def bound_put(desk, words):
    """bound NAME LOW HIGH: the column's bounds, in the place of those ahead."""
    check_many(words, 3)
    name = words[0]
    if not is_name(name):
        raise NoAsk("a name that is none")
    low, high = [None if word == "-" else read_number(word) for word in words[1:]]
    if name not in desk.kept.columns:
        raise NoName("there is no such column")
    if low is not None and high is not None and compared(low, high) > 0:
        raise NoBound("a low bound above the high one")
    desk.bounds[name] = (low, high)
    return []


def all_loose(desk, words):
    """loose: all ties and bounds go."""
    check_many(words, 0)
    desk.ties = ()
    desk.bounds = {}
    return []


def near_told(desk, words):
    """near: how far, then each column's name and weight; or none and the paper."""
    check_many(words, 0)
    told = laid(desk)
    if told[0] == "none":
        return [" ".join(["none", *[number_shown(number) for number in told[1]]])]
    return [number_shown(told[3]), *named(desk.kept.columns, told[1])]


def left_told(desk, words):
    """left: each row's number and what is left of it."""
    check_many(words, 0)
    told = laid(desk)
    if told[0] == "none":
        return []
    return named(desk.kept.numbers(), told[2])


def gaps_told(desk, words):
    """gaps: how far by plain gaps."""
    check_many(words, 0)
    return [number_shown(nearest_plain(desk.kept.table())[1])]


def widest_told(desk, words):
    """widest: how far by the greatest gap."""
    check_many(words, 0)
    return [number_shown(nearest_widest(desk.kept.table())[1])]


def out_told(desk, words):
    """out N: what the row would be left with, were it not there; or none."""
    check_many(words, 1)
    number = desk.kept.out(read_place(words[0]))
    return ["none" if number is None else number_shown(number)]


def best_told(desk, words):
    """best K: the names of the K columns that come nearest alone, and how far."""
    check_many(words, 1)
    k = read_place(words[0])
    names = desk.kept.columns
    if k > len(names):
        raise NoAsk("more columns than there are")
    columns, far = best_choices(desk.kept.table())[k]
    return [" ".join([names[column] for column in columns]), number_shown(far)]


def brings_told(desk, words):
    """brings: each column's name and what it brings."""
    check_many(words, 0)
    names = desk.kept.columns
    return named(names, brings(desk.kept.table(), tuple(range(len(names)))))


def table_told(desk, words):
    """table: the lines of the table's text."""
    check_many(words, 0)
    return table_shown(desk.kept.table()).split("\n")


ACTIONS = {
    "columns": columns_anew, "row": row_put, "drop": row_dropped, "wish": wish_changed, "tie": tie_put,
    "bound": bound_put, "loose": all_loose, "near": near_told, "left": left_told, "gaps": gaps_told,
    "widest": widest_told, "out": out_told, "best": best_told, "brings": brings_told, "table": table_told,
}


def check_many(words, many):
    """Refuse other than so many words."""
    if len(words) != many:
        raise NoAsk("other than so many words")


def read_place(word):
    """The number of a row, or of columns, that the word writes in figures; else NoAsk."""
    try:
        return read_figures(word)
    except NoNumber:
        raise NoAsk("figures that are none") from None


def read_sum(desk, words):
    """(row, number) of a row or a tie: a number for each column, the sign =, and one more."""
    parts = without_sign(words, len(desk.kept.columns))
    if parts is None:
        raise NoAsk("other than so many numbers, or the sign = in another place")
    numbers = [read_number(part) for part in parts]
    return (tuple(numbers[:-1]), numbers[-1])


def named(names, numbers):
    """For each number a text: its name, a blank, the number."""
    return [f"{name} {number_shown(number)}" for name, number in zip(names, numbers)]


def laid(desk):
    """("near", weights, what is left, how far ..), or ("none", paper), under ties and bounds where there are some."""
    bounds = tuple([desk.bounds.get(name, NO_BOUND) for name in desk.kept.columns])
    if desk.ties == () and all(bound == NO_BOUND for bound in bounds):
        return ("near", *desk.kept.nearest())
    return nearest_bound(desk.kept.table(), desk.ties, bounds)


class Desk:
    """A table with ties and bounds, at first without any, asked by lines."""

    def __init__(self):
        self.kept = Kept(())
        self.ties = ()
        self.bounds = {}

    def ask(self, line):
        """A list of texts: what the line asks for."""
        word, *words = line.split(" ")
        if word not in ACTIONS:
            raise NoAsk("a line that asks for nothing that is known")
        action = ACTIONS[word]
        return action(self, words)
