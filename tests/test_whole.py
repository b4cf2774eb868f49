"""Promises [2], [3] and [38]: nearlaid/whole.py."""

import copy
import random
import unittest

from nearlaid.choices.few import best_choices
from nearlaid.corners.bounds import bound_shown, nearest_bound
from nearlaid.corners.gaps import nearest_plain, nearest_widest
from nearlaid.errors import NearError, NoAsk, NoBound, NoName, NoNumber, NoRow, TooMany
from nearlaid.kept import Kept
from nearlaid.numbers.fractions import number_shown, read_number
from nearlaid.tables.nearest import nearest
from nearlaid.tables.texts import left_of, read_table, table_shown
from nearlaid.tables.uprights import brings
from nearlaid.whole import Desk
from tests.support import bounds_of, row, some_row, some_table, system

QUESTIONS = ("near", "left", "gaps", "widest", "brings", "table")


def desk_of(*lines):
    """A desk that was asked these lines."""
    desk = Desk()
    for line in lines:
        desk.ask(line)
    return desk


def lines_of(table):
    """The lines by which a desk comes to have the table."""
    names, rows, wish = table
    lines = [" ".join(["columns", *names])]
    for line, wished in zip(rows, wish):
        lines.append(" ".join(["row", *[number_shown(x) for x in line], "=", number_shown(wished)]))
    return lines


def all_told(desk):
    """All that the desk tells of its table, ties and bounds, but of rows one by one."""
    return [desk.ask(line) for line in QUESTIONS]


def weights_told(texts):
    """The weights that `near` tells."""
    return tuple(read_number(text.split(" ")[1]) for text in texts[1:])


class Checked(unittest.TestCase):
    def asked(self, desk, line):
        """What the line tells: a list of texts, the asker's own."""
        answer = desk.ask(line)
        self.assertIs(type(answer), list)
        self.assertTrue(all(type(text) is str for text in answer))
        return answer

    def refused(self, desk, line, error):
        """The line is refused with just this error, and nothing changes."""
        before = all_told(desk)
        with self.assertRaises(NearError) as caught:
            desk.ask(line)
        self.assertIs(type(caught.exception), error, line)
        self.assertEqual(all_told(desk), before)


class Lines(Checked):
    def test_at_first(self):
        desk = Desk()
        self.assertEqual(self.asked(desk, "table"), ["="])
        self.assertEqual(self.asked(desk, "near"), ["0"])
        for line in ("left", "brings"):
            self.assertEqual(self.asked(desk, line), [])
        for line in ("gaps", "widest"):
            self.assertEqual(self.asked(desk, line), ["0"])
        self.assertEqual(self.asked(desk, "best 0"), ["", "0"])
        self.assertEqual(self.asked(desk, "row = 3"), ["0"])
        self.assertEqual(self.asked(desk, "near"), ["9"])
        self.assertEqual(self.asked(desk, "left"), ["0 3"])
        self.assertEqual(self.asked(desk, "out 0"), ["3"])
        self.assertEqual(self.asked(desk, "table"), ["=", "= 3"])

    def test_what_tells_nothing(self):
        desk = Desk()
        for line in ("columns", "columns a", "columns a b"):
            self.assertEqual(self.asked(desk, line), [])
        self.assertEqual(self.asked(desk, "row 1 2 = 3"), ["0"])
        for line in ("wish 0 4", "tie 1 1 = 1", "bound a 0 1", "bound a - -", "loose", "drop 0"):
            self.assertEqual(self.asked(desk, line), [])

    def test_numbers_of_rows(self):
        desk = desk_of("columns a")
        for number in ("0", "1", "2"):
            self.assertEqual(self.asked(desk, "row 1 = 1"), [number])
        desk.ask("drop 2")
        desk.ask("drop 0")
        self.assertEqual(self.asked(desk, "row 1 = 5"), ["3"])
        self.assertEqual(self.asked(desk, "left"), ["1 -2", "3 2"])
        desk.ask("columns b")
        self.assertEqual(self.asked(desk, "row 1 = 1"), ["0"])

    def test_near_and_left(self):
        desk = desk_of("columns a b", "row 1 0 = 6", "row 1 1 = 0", "row 1 2 = 0")
        self.assertEqual(self.asked(desk, "near"), ["6", "a 5", "b -3"])
        self.assertEqual(self.asked(desk, "left"), ["0 1", "1 -2", "2 1"])
        desk.ask("wish 1 1/2")
        self.assertEqual(self.asked(desk, "near"), ["25/6", "a 31/6", "b -3"])
        self.assertEqual(self.asked(desk, "table"), ["a b =", "1 0 = 6", "1 1 = 1/2", "1 2 = 0"])
        desk.ask("drop 1")
        self.assertEqual(self.asked(desk, "near"), ["0", "a 6", "b -3"])
        self.assertEqual(self.asked(desk, "left"), ["0 0", "2 0"])

    def test_the_shortest(self):
        desk = desk_of("columns a b", "row 1 1 = 4")
        self.assertEqual(self.asked(desk, "near"), ["0", "a 2", "b 2"])
        # A bound `- -` is none.
        desk.ask("bound a - -")
        self.assertEqual(self.asked(desk, "near"), ["0", "a 2", "b 2"])
        desk.ask("bound a 0 1")
        desk.ask("bound a - -")
        self.assertEqual(self.asked(desk, "near"), ["0", "a 2", "b 2"])
        desk.ask("tie 1 0 = 3")
        self.assertEqual(self.asked(desk, "near"), ["0", "a 3", "b 1"])
        desk.ask("loose")
        self.assertEqual(self.asked(desk, "near"), ["0", "a 2", "b 2"])

    def test_without_rows(self):
        desk = desk_of("columns a b")
        self.assertEqual(self.asked(desk, "near"), ["0", "a 0", "b 0"])
        self.assertEqual(self.asked(desk, "left"), [])
        desk.ask("tie 1 1 = 2")
        desk.ask("bound a 5 -")
        told = self.asked(desk, "near")
        self.assertEqual(told[0], "0")
        weights = weights_told(told)
        self.assertEqual(weights[0][0] * weights[1][1] + weights[1][0] * weights[0][1], 2 * weights[0][1] * weights[1][1])
        self.assertGreaterEqual(weights[0][0], 5 * weights[0][1])
        self.assertEqual(self.asked(desk, "left"), [])

    def test_ties(self):
        desk = desk_of("columns a b", "row 1 0 = 3", "row 0 1 = 5", "tie 1 1 = 4")
        self.assertEqual(self.asked(desk, "near"), ["8", "a 1", "b 3"])
        self.assertEqual(self.asked(desk, "left"), ["0 2", "1 2"])
        desk.ask("tie 2/4 -1 = -1")
        self.assertEqual(self.asked(desk, "near"), ["10", "a 2", "b 2"])
        for line in ("tie 1 1 = 4", "tie 0 0 = 0"):
            desk.ask(line)
        self.assertEqual(self.asked(desk, "near"), ["10", "a 2", "b 2"])

    def test_bounds(self):
        desk = desk_of("columns a b", "row 1 0 = 3", "row 0 1 = 5", "bound a 4 -", "bound b - 2")
        self.assertEqual(self.asked(desk, "near"), ["10", "a 4", "b 2"])
        self.assertEqual(self.asked(desk, "left"), ["0 -1", "1 3"])
        desk.ask("bound a - 1/2")
        self.assertEqual(self.asked(desk, "near"), ["61/4", "a 1/2", "b 2"])
        desk.ask("bound b 7 7")
        self.assertEqual(self.asked(desk, "near"), ["41/4", "a 1/2", "b 7"])
        desk.ask("bound a - -")
        self.assertEqual(self.asked(desk, "near"), ["4", "a 3", "b 7"])
        desk.ask("loose")
        self.assertEqual(self.asked(desk, "near"), ["0", "a 3", "b 5"])

    def test_ties_and_bounds(self):
        desk = desk_of("columns a b", "row 1 0 = 3", "row 0 1 = 5", "bound a 2 -", "tie 1 1 = 4")
        self.assertEqual(self.asked(desk, "near"), ["10", "a 2", "b 2"])
        self.assertEqual(self.asked(desk, "left"), ["0 1", "1 3"])

    def test_none(self):
        desk = desk_of("columns a b", "row 1 0 = 3", "row 0 1 = 5", "tie 1 1 = 4", "bound a 0 1", "bound b 0 2")
        table = read_table("a b =\n1 0 = 3\n0 1 = 5")
        self.check_none(desk, table, system((1, 1, 4)), bounds_of((0, 1), (0, 2)))
        desk = desk_of("columns a", "row 1 = 3", "tie 1 = 1", "tie 1/2 = 3")
        self.check_none(desk, read_table("a =\n1 = 3"), system((1, 1), ("1/2", 3)), bounds_of((None, None)))
        desk = desk_of("columns", "tie = 3/7")
        self.check_none(desk, ((), (), ()), system(("3/7",)), ())
        desk.ask("loose")
        self.assertEqual(self.asked(desk, "near"), ["0"])

    def check_none(self, desk, table, ties, bounds):
        texts = self.asked(desk, "near")
        self.assertEqual(len(texts), 1)
        word, *numbers = texts[0].split(" ")
        self.assertEqual(word, "none")
        paper = tuple(read_number(number) for number in numbers)
        self.assertEqual(" ".join(["none", *[number_shown(number) for number in paper]]), texts[0])
        self.assertEqual(len(paper), len(ties))
        self.assertTrue(bound_shown(table, ties, bounds, ("none", paper)))
        self.assertEqual(self.asked(desk, "left"), [])
        self.assertEqual(desk.ask("near"), texts)

    def test_gaps_and_widest(self):
        desk = desk_of("columns a", "row 1 = 1", "row 1 = 2", "row 1 = 9")
        self.assertEqual(self.asked(desk, "gaps"), ["8"])
        self.assertEqual(self.asked(desk, "widest"), ["4"])
        # Ties and bounds aside.
        desk.ask("bound a 20 -")
        desk.ask("tie 1 = 30")
        self.assertEqual(self.asked(desk, "gaps"), ["8"])
        self.assertEqual(self.asked(desk, "widest"), ["4"])

    def test_out(self):
        desk = desk_of("columns a", "row 1 = 1", "row 1 = 2", "row 1 = 9", "bound a 20 -", "tie 1 = 30")
        self.assertEqual([self.asked(desk, f"out {k}") for k in range(3)], [["-9/2"], ["-3"], ["15/2"]])
        desk.ask("drop 0")
        self.assertEqual(self.asked(desk, "out 2"), ["7"])
        desk.ask("drop 1")
        self.assertEqual(self.asked(desk, "out 2"), ["none"])

    def test_best(self):
        lines = ("columns a b c", "row 1 0 1 = 2", "row 0 1 1 = 1", "row 0 0 1/9 = 0")
        desk = desk_of(*lines, "tie 1 1 1 = 99", "bound a 50 -")
        self.assertEqual(self.asked(desk, "best 0"), ["", "5"])
        self.assertEqual(self.asked(desk, "best 1"), ["c", "86/163"])
        self.assertEqual(self.asked(desk, "best 2"), ["a b", "0"])
        self.assertEqual(self.asked(desk, "best 3"), ["a b c", "0"])
        for k in ("4", "99", "7" * 3000):
            self.refused(desk, "best " + k, NoAsk)

    def test_brings(self):
        desk = desk_of("columns a b", "row 1 0 = 6", "row 1 1 = 0", "row 1 2 = 0", "tie 1 1 = 99", "bound a 50 -")
        self.assertEqual(self.asked(desk, "brings"), ["a 12", "b 18"])

    def test_columns_anew(self):
        desk = desk_of("columns a b", "row 1 0 = 3", "tie 1 1 = 4", "bound a 2 3", "columns b a")
        self.assertEqual(self.asked(desk, "table"), ["b a ="])
        self.assertEqual(self.asked(desk, "row 1 0 = 9"), ["0"])
        self.assertEqual(self.asked(desk, "near"), ["0", "b 9", "a 0"])
        desk = desk_of("columns a", "row 1 = 3", "columns a")
        self.assertEqual(self.asked(desk, "table"), ["a ="])
        desk = desk_of("columns a", "row 1 = 3", "columns")
        self.assertEqual(self.asked(desk, "table"), ["="])

    def test_not_in_least_numbers(self):
        desk = desk_of("columns a", "row 2/4 = -6/3", "row 0/5 = 3/1")
        self.assertEqual(self.asked(desk, "table"), ["a =", "1/2 = -2", "0 = 3"])
        desk.ask("wish 0 10/4")
        desk.ask("bound a 2/4 6/2")
        self.assertEqual(self.asked(desk, "near"), ["10", "a 3"])
        desk.ask("bound a 2/4 1/2")
        self.assertEqual(self.asked(desk, "near"), ["225/16", "a 1/2"])

    def test_names(self):
        desk = desk_of("columns z abcdefgh near")
        self.assertEqual(self.asked(desk, "table"), ["z abcdefgh near ="])
        desk.ask("bound near 1 2")
        self.assertEqual(self.asked(desk, "near")[0], "0")

    def test_lists_are_the_asker_s_own(self):
        desk = desk_of("columns a b", "row 1 0 = 6", "row 1 1 = 0")
        for line in (*QUESTIONS, "best 1", "out 0", "loose", "row 1 1 = 1"):
            told = desk.ask(line)
            before = [desk.ask(question) for question in QUESTIONS]
            told.append("x")
            del told[0]
            self.assertEqual([desk.ask(question) for question in QUESTIONS], before)
        kept = desk.ask("near")
        copied = copy.deepcopy(kept)
        desk.ask("columns")
        self.assertEqual(kept, copied)

    def test_two_desks(self):
        one, other = desk_of("columns a", "row 1 = 3"), Desk()
        self.assertEqual(other.ask("table"), ["="])
        other.ask("columns b")
        self.assertEqual(one.ask("table"), ["a =", "1 = 3"])


class AgainstTheRest(Checked):
    def test_of_all_sizes(self):
        chance = random.Random(1)
        for columns in range(7):
            for rows in (0, 1, 3, 10):
                self.check(some_table(chance, columns, rows))

    def check(self, table):
        """All that is told of a table without ties and bounds is what the other parts tell."""
        names, rows, wish = table
        desk = desk_of(*lines_of(table))
        weights, left, far = nearest(table)
        self.assertEqual(desk.ask("table"), table_shown(table).split("\n"))
        shown = [f"{name} {number_shown(weight)}" for name, weight in zip(names, weights)]
        self.assertEqual(desk.ask("near"), [number_shown(far), *shown])
        self.assertEqual(desk.ask("left"), [f"{at} {number_shown(x)}" for at, x in enumerate(left)])
        self.assertEqual(desk.ask("gaps"), [number_shown(nearest_plain(table)[1])])
        self.assertEqual(desk.ask("widest"), [number_shown(nearest_widest(table)[1])])
        brought = brings(table, tuple(range(len(names))))
        self.assertEqual(desk.ask("brings"), [f"{name} {number_shown(x)}" for name, x in zip(names, brought)])
        for k, (places, far) in enumerate(best_choices(table)):
            self.assertEqual(desk.ask(f"best {k}"), [" ".join(names[at] for at in places), number_shown(far)])
        kept = Kept(names)
        for line, wished in zip(rows, wish):
            kept.put_row(line, wished)
        for at in range(len(rows)):
            out = kept.out(at)
            self.assertEqual(desk.ask(f"out {at}"), ["none" if out is None else number_shown(out)])

    def test_with_ties_and_bounds(self):
        chance = random.Random(2)
        words = {"near": 0, "none": 0}
        for round_ in range(60):
            table = some_table(chance, chance.randrange(1, 5), chance.randrange(5))
            many = len(table[0])
            ties = tuple((some_row(chance, many), some_row(chance, 1)[0]) for k in range(chance.randrange(3)))
            bounds = tuple(chance.choice(bounds_of((None, None), (0, None), (-1, 1), (None, 2))) for k in range(many))
            lines = lines_of(table)
            for line, number in ties:
                lines.append(" ".join(["tie", *[number_shown(x) for x in line], "=", number_shown(number)]))
            for name, ends in zip(table[0], bounds):
                shown = ["-" if end is None else number_shown(end) for end in ends]
                lines.append(" ".join(["bound", name, *shown]))
            words[self.check_let(desk_of(*lines), table, ties, bounds)] += 1
        self.assertGreater(min(words.values()), 5)

    def check_let(self, desk, table, ties, bounds):
        """What `near` and `left` tell holds under ties and bounds; tell whether weights are let."""
        texts = self.asked(desk, "near")
        if texts[0].startswith("none"):
            paper = tuple(read_number(number) for number in texts[0].split(" ")[1:])
            self.assertTrue(bound_shown(table, ties, bounds, ("none", paper)))
            self.assertEqual(desk.ask("left"), [])
            return "none"
        self.assertEqual([text.split(" ")[0] for text in texts[1:]], list(table[0]))
        weights = weights_told(texts)
        left = left_of(table, weights)
        self.assertEqual(desk.ask("left"), [f"{at} {number_shown(x)}" for at, x in enumerate(left)])
        self.assertEqual(nearest_bound(table, ties, bounds)[2:4], (left, read_number(texts[0])))
        return "near"

    def test_twelve_figures(self):
        table = some_table(random.Random(3), 6, 10, 12)
        self.check(table)


class Refused(Checked):
    def setUp(self):
        self.desk = desk_of("columns a b", "row 1 2 = 3", "row 0 1 = 1", "tie 1 1 = 4", "bound a 0 9")

    def test_other_lines(self):
        for line in (
            "", " ", "  ", "x", "Near", "NEAR", "nears", "near\n", "\nnear", "near near", "left 0", "gaps a", "widest 1",
            "brings a", "table a", "loose 1", "rows 1 2 = 3", "=", "a", "0", "none", "column a", "tie", "row", "drop",
            "wish", "bound", "out", "best", "near,", "quit", "help", "share 0", "flat",
        ):
            self.refused(self.desk, line, NoAsk)

    def test_blanks(self):
        for line in ("near", "left", "gaps", "widest", "brings", "table", "loose", "drop 0", "wish 0 1", "out 0", "best 1",
                     "row 1 2 = 3", "tie 1 2 = 3", "bound a 0 1", "columns a", "columns"):
            self.refused(self.desk, " " + line, NoAsk)
            self.refused(self.desk, line + " ", NoAsk)
            self.refused(self.desk, "  " + line, NoAsk)
            if " " in line:
                self.refused(self.desk, line.replace(" ", "  ", 1), NoAsk)
                self.refused(self.desk, line.replace(" ", "\n", 1), NoAsk)
                self.refused(self.desk, line.replace(" ", "\t", 1), NoAsk)

    def test_an_empty_word_is_a_word(self):
        # So many words, but one of them is nothing: no name, no figures, no number.
        self.refused(self.desk, "columns ", NoAsk)
        self.refused(self.desk, "columns a  b", NoAsk)
        self.refused(self.desk, "drop ", NoAsk)
        self.refused(self.desk, "best ", NoAsk)
        self.refused(self.desk, "wish  1", NoAsk)
        self.refused(self.desk, "bound  0 1", NoAsk)
        self.refused(self.desk, "wish 0 ", NoNumber)
        self.refused(self.desk, "row 1  = 3", NoNumber)
        self.refused(self.desk, "row 1 2 = ", NoNumber)
        self.refused(self.desk, "tie  2 = 3", NoNumber)
        self.refused(self.desk, "bound a  1", NoNumber)
        self.refused(self.desk, "bound a 1 ", NoNumber)

    def test_names_that_are_none(self):
        for name in ("A", "a1", "abcdefghi", "=", "-", "a=", "1", "a\n", "a_b"):
            self.refused(self.desk, "columns " + name, NoAsk)
            self.refused(self.desk, f"columns a {name} b", NoAsk)
            self.refused(self.desk, f"bound {name} 0 1", NoAsk)

    def test_names_twice(self):
        for line in ("columns a a", "columns a b a", "columns b a c d e f b"):
            self.refused(self.desk, line, NoAsk)

    def test_figures_that_are_none(self):
        for figures in ("00", "01", "-1", "+1", "1/1", "0/1", "a", "-0", "1.0", "=", "0\n", "-"):
            for line in ("drop N", "out N", "wish N 1", "best N"):
                self.refused(self.desk, line.replace("N", figures), NoAsk)

    def test_other_than_so_many_numbers(self):
        for word in ("row", "tie"):
            for rest in ("1 = 3", "1 2 3 = 3", "= 3", "1 2 =", "1 2 = 3 4", "1 2 3", "1 2", "= 1 2 3", "1 = 2 3",
                         "1 2 3 =", "1 2 = =" + " 3", "x = 3", "1 2 == 3", "1 2= 3", "1 2 =3"):
                self.refused(self.desk, f"{word} {rest}", NoAsk)
        for line in ("wish 0", "wish 0 1 2", "bound a 1", "bound a 1 2 3", "drop 0 1", "out 0 1", "best 1 2", "wish 0 = 1"):
            self.refused(self.desk, line, NoAsk)

    def test_numbers_that_are_none(self):
        for number in ("x", "1/0", "01", "-0", "+1", "1.5", "--1", "1/-2", "/2", "1/", "1/02", "=", "0/0"):
            self.refused(self.desk, f"row {number} 2 = 3", NoNumber)
            self.refused(self.desk, f"row 1 {number} = 3", NoNumber)
            self.refused(self.desk, f"row 1 2 = {number}", NoNumber)
            self.refused(self.desk, f"tie {number} 2 = 3", NoNumber)
            self.refused(self.desk, f"tie 1 2 = {number}", NoNumber)
            self.refused(self.desk, f"wish 0 {number}", NoNumber)
            self.refused(self.desk, f"bound a {number} 3", NoNumber)
            self.refused(self.desk, f"bound a - {number}", NoNumber)
        # The sign for no bound is no number.
        for line in ("row - 2 = 3", "row 1 2 = -", "tie 1 - = 3", "wish 0 -"):
            self.refused(self.desk, line, NoNumber)

    def test_names_and_rows_that_there_are_not(self):
        for name in ("c", "aa", "abcdefgh"):
            self.refused(self.desk, f"bound {name} 0 1", NoName)
            self.refused(self.desk, f"bound {name} - -", NoName)
        for number in ("2", "99", "9" * 3000):
            self.refused(self.desk, f"drop {number}", NoRow)
            self.refused(self.desk, f"out {number}", NoRow)
            self.refused(self.desk, f"wish {number} 1", NoRow)
        self.desk.ask("drop 0")
        for line in ("drop 0", "out 0", "wish 0 1"):
            self.refused(self.desk, line, NoRow)
        self.refused(Desk(), "drop 0", NoRow)
        self.refused(Desk(), "bound a 0 1", NoName)

    def test_too_many(self):
        for line in ("tie 1 1 = 4", "tie 0 0 = 0", "tie 2 2 = 8"):
            self.desk.ask(line)
        self.refused(self.desk, "tie 1 1 = 4", TooMany)
        self.desk.ask("loose")
        self.desk.ask("tie 1 1 = 4")
        for k in range(8):
            self.assertEqual(self.desk.ask("row 1 1 = 1"), [str(k + 2)])
        self.refused(self.desk, "row 1 1 = 1", TooMany)
        self.desk.ask("drop 3")
        self.assertEqual(self.desk.ask("row 1 1 = 1"), ["10"])
        self.refused(self.desk, "row 1 1 = 1", TooMany)
        self.refused(self.desk, "columns a b c d e f g", TooMany)
        self.refused(self.desk, "columns g f e d c b a h", TooMany)
        self.desk.ask("columns a b c d e f")
        self.assertEqual(self.desk.ask("table"), ["a b c d e f ="])

    def test_no_bound(self):
        for low, high in (("1", "0"), ("1/2", "1/3"), ("-1", "-2"), ("0", "-1/999999999999"), ("2/2", "99/100")):
            self.refused(self.desk, f"bound a {low} {high}", NoBound)
        for low, high in (("1", "1"), ("1/2", "2/4"), ("1", "-"), ("-", "-9"), ("-", "-")):
            self.assertEqual(self.desk.ask(f"bound a {low} {high}"), [])

    def test_a_refused_bound_changes_nothing(self):
        before = self.desk.ask("near")
        for line in ("bound a 5 4", "bound a 5 x", "bound c 5 6", "bound a 5"):
            with self.assertRaises(NearError):
                self.desk.ask(line)
            self.assertEqual(self.desk.ask("near"), before)


class InOrder(Checked):
    def full(self):
        """A desk with as many columns, rows and ties as may be."""
        desk = desk_of("columns a b c d e f")
        for k in range(10):
            desk.ask(f"row {k} 1 0 {k * k} 2 0 = {k - 3}")
        for k in range(4):
            desk.ask("tie 1 0 0 0 0 0 = 0")
        return desk

    def test_ask_before_number(self):
        desk = desk_of("columns a b", "row 1 2 = 3")
        for line in ("row x = 3", "row x y z = 3", "tie x 1 = 2 3", "wish 01 x", "wish x x", "wish 0 x x", "bound A x y",
                     "bound a x", "bound a1 x 0"):
            self.refused(desk, line, NoAsk)

    def test_number_before_name_and_row(self):
        desk = desk_of("columns a b", "row 1 2 = 3")
        for line in ("wish 9 x", "wish 1 1/0", "bound c x 1", "bound c 0 01"):
            self.refused(desk, line, NoNumber)

    def test_ask_before_name_and_row(self):
        desk = desk_of("columns a b", "row 1 2 = 3")
        for line in ("wish 9", "drop 9 9", "bound c 1", "out 9 1", "drop 09"):
            self.refused(desk, line, NoAsk)

    def test_before_too_many(self):
        desk = self.full()
        for line, error in (
            ("row 1 2 3 = 3", NoAsk), ("tie 1 2 3 = 3", NoAsk), ("row 1 1 1 1 1 1 1 = 1", NoAsk),
            ("row 1 1 1 1 1 x = 1", NoNumber), ("tie 1 1 1 1 1 1 = x", NoNumber),
            ("row 1 1 1 1 1 1 = 1", TooMany), ("tie 1 1 1 1 1 1 = 1", TooMany),
            ("columns a b c d e f a", NoAsk), ("columns a b c d e f G", NoAsk), ("columns a b c d e f g", TooMany),
            ("columns a b c d e f g ", NoAsk),
        ):
            with self.assertRaises(NearError) as caught:
                desk.ask(line)
            self.assertIs(type(caught.exception), error, line)
        self.assertEqual(len(desk.ask("table")), 11)

    def test_name_before_bound(self):
        desk = desk_of("columns a b")
        self.refused(desk, "bound c 2 1", NoName)
        self.refused(desk, "bound a 2 1", NoBound)
        self.refused(desk, "bound a 2 x", NoNumber)
        self.refused(desk, "bound a 2 1 1", NoAsk)


if __name__ == "__main__":
    unittest.main()
