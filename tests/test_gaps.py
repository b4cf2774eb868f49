"""Promises [2], [3], [21] and [22]: nearlaid/corners/gaps.py."""

import copy
import itertools
import random
import unittest

from nearlaid.corners.gaps import nearest_plain, nearest_widest, plain_shown, widest_shown
from nearlaid.numbers.systems import solved
from tests.support import changed, is_fraction, is_row, mixed, own, row, some_row, some_table, sum_with, turned


def gaps(table, weights):
    """What is left, without signs."""
    return [abs(own(wished) - sum_with(line, weights)) for line, wished in zip(table[1], table[2])]


def upright(table, paper):
    return all(sum_with(column, paper) == 0 for column in turned(table[1], len(table[0])))


def plain_holds(table, weights, paper):
    """By the document's words: the paper shows the weights nearest by plain gaps."""
    small = all(-1 <= own(x) <= 1 for x in paper)
    return small and upright(table, paper) and sum_with(paper, table[2]) == sum(gaps(table, weights))


def widest_holds(table, weights, paper):
    """By the document's words: the paper shows the weights nearest by the greatest gap."""
    small = sum(abs(own(x)) for x in paper) <= 1
    return small and upright(table, paper) and sum_with(paper, table[2]) == max(gaps(table, weights), default=0)


class Checked(unittest.TestCase):
    def check(self, table, looked=True):
        """Look at both told things in all parts; tell how far both are."""
        before = copy.deepcopy(table)
        fars = []
        for asked, shown, holds, far_by in (
            (nearest_plain, plain_shown, plain_holds, sum), (nearest_widest, widest_shown, widest_holds, max),
        ):
            answer = asked(table)
            self.assertEqual(asked(table), answer)
            self.assertIsInstance(answer, tuple)
            weights, far, paper = answer
            self.assertTrue(is_row(weights, len(table[0])))
            self.assertTrue(is_row(paper, len(table[1])))
            self.assertTrue(is_fraction(far))
            self.assertEqual(own(far), far_by([*gaps(table, weights), 0]))
            self.assertEqual(sum_with(paper, table[2]), own(far))
            self.assertTrue(holds(table, weights, paper))
            self.assertIs(shown(table, weights, paper), True)
            if looked:
                self.check_changed(table, answer, shown, holds)
            fars.append(far)
        self.assertEqual(table, before)
        return tuple(fars)

    def check_changed(self, table, answer, shown, holds):
        """The lookers tell of weights and papers with one number changed what the document's words do."""
        weights, far, paper = answer
        for by in ((1, 1), (-1, 3)):
            for at in range(len(weights)):
                other = changed(weights, at, by)
                self.assertIs(shown(table, other, paper), holds(table, other, paper))
            for at in range(len(paper)):
                other = changed(paper, at, by)
                self.assertIs(shown(table, weights, other), holds(table, weights, other))


class ByHand(Checked):
    def test_one_column(self):
        table = (("a",), (row(1), row(1), row(1)), row(1, 2, 9))
        self.assertEqual(self.check(table), row(8, 4))
        self.assertEqual(nearest_plain(table)[0], row(2))
        self.assertEqual(nearest_widest(table), (row(5), (4, 1), row("-1/2", 0, "1/2")))
        table = (("a",), (row(1), row(2)), row(1, 6))
        self.assertEqual(self.check(table), row(2, "4/3"))
        self.assertEqual(nearest_plain(table)[0], row(3))
        self.assertEqual(nearest_widest(table)[0], row("7/3"))

    def test_a_line_through_points(self):
        table = (("a", "b"), (row(1, 0), row(1, 1), row(1, 2)), row(0, 0, 6))
        self.assertEqual(self.check(table), row(3, "3/2"))

    def test_met(self):
        table = (("a", "b"), (row(1, 1), row(1, -1)), row(3, 1))
        self.assertEqual(self.check(table), row(0, 0))
        self.assertEqual(nearest_plain(table)[0], row(2, 1))
        self.assertEqual(nearest_widest(table)[0], row(2, 1))

    def test_no_columns(self):
        table = ((), ((), (), ()), row(3, "-7/2", 0))
        self.assertEqual(self.check(table), row("13/2", "7/2"))
        weights, far, paper = nearest_plain(table)
        self.assertEqual((weights, paper[:2]), ((), row(1, -1)))
        self.assertEqual(nearest_widest(table), ((), (7, 2), row(0, -1, 0)))
        self.assertEqual(self.check(((), ((), ()), row(0, 0))), row(0, 0))

    def test_no_rows(self):
        table = (("a", "b"), (), ())
        self.assertEqual(self.check(table), row(0, 0))
        self.assertEqual(nearest_plain(table)[1:], ((0, 1), ()))
        self.assertEqual(nearest_widest(table)[1:], ((0, 1), ()))
        for shown in (plain_shown, widest_shown):
            self.assertIs(shown(table, row(3, "-1/2"), ()), True)

    def test_neither(self):
        self.assertEqual(self.check(((), (), ())), row(0, 0))
        self.assertEqual(nearest_plain(((), (), ())), ((), (0, 1), ()))
        self.assertEqual(nearest_widest(((), (), ())), ((), (0, 1), ()))

    def test_columns_of_noughts_alike_and_sums(self):
        self.assertEqual(self.check((("a",), (row(0), row(0)), row(3, -5))), row(8, 5))
        self.assertEqual(self.check((("a", "b"), (row(1, 1), row(1, 1)), row(1, 3))), row(2, 1))
        table = (("a", "b", "c"), (row(1, 0, 1), row(0, 1, 1), row(1, 1, 2)), row(1, 1, 5))
        self.assertEqual(self.check(table), row(3, 1))

    def test_more_columns_than_rows(self):
        self.assertEqual(self.check((("a", "b", "c"), (row(1, 2, 3),), row("1/7"))), row(0, 0))

    def test_wish_of_noughts(self):
        self.assertEqual(self.check((("a", "b"), (row(1, 2), row(3, 4), row(5, 7)), row(0, 0, 0))), row(0, 0))


class Sought(Checked):
    def test_of_all_sizes(self):
        chance = random.Random(1)
        for columns in range(7):
            for rows in range(11):
                for figures in (1, 2):
                    self.check(some_table(chance, columns, rows, figures), looked=columns + rows < 8)

    def test_many_small_ones(self):
        """Small numbers bring many ties; some weights that meet rows are nearest by plain gaps."""
        chance = random.Random(2)
        for round_ in range(300):
            columns, rows = chance.randrange(4), chance.randrange(5)
            lines = tuple(row(*[chance.randint(-1, 1) for k in range(columns)]) for at in range(rows))
            table = (tuple("abcdef"[:columns]), lines, row(*[chance.randint(-2, 2) for k in range(rows)]))
            plain, widest = self.check(table, looked=False)
            self.assertEqual(own(plain), min(self.fars_of_met_rows(table)))
            self.check_others(chance, table, plain, widest)

    def fars_of_met_rows(self, table):
        """How far by plain gaps weights are that meet some rows just so, of all choices of rows."""
        names, rows, wish = table
        for met in itertools.product((False, True), repeat=len(rows)):
            asked = tuple((line, wished) for line, wished, taken in zip(rows, wish, met) if taken)
            found = solved(asked, len(names))
            if found[0] == "solved":
                yield sum(gaps(table, found[1]))

    def check_others(self, chance, table, plain, widest):
        """Any other weights are no nearer."""
        for round_ in range(5):
            others = gaps(table, some_row(chance, len(table[0])))
            self.assertGreaterEqual(sum(others), own(plain))
            self.assertGreaterEqual(max(others, default=0), own(widest))

    def test_ends_of_what_is_told(self):
        """The greatest gap is at least a share, and at most all, of the sum of gaps."""
        chance = random.Random(3)
        for round_ in range(30):
            rows = chance.randint(1, 10)
            plain, widest = self.check(some_table(chance, chance.randrange(7), rows), looked=False)
            self.assertTrue(own(plain) / rows <= own(widest) <= own(plain))

    def test_twelve_figures(self):
        chance = random.Random(4)
        for columns, rows in ((6, 10), (3, 10), (6, 4)):
            self.check(some_table(chance, columns, rows, 12), looked=False)
        rows = tuple(some_row(chance, 6, 12) for at in range(10))
        self.check((tuple("abcdef"), rows, some_row(chance, 10, 12)), looked=False)

    def test_told_is_handed_on(self):
        chance = random.Random(5)
        names, rows, wish = some_table(chance, 3, 5, 3)
        weights, far, paper = nearest_widest((names, rows, wish))
        self.check((names, (*rows, weights), (*wish, far)))
        self.check((names, rows, nearest_plain((names, rows, paper))[2]))

    def test_a_wish_moved_and_taken_several_times(self):
        chance = random.Random(6)
        names, rows, wish = some_table(chance, 3, 6, 12)
        plain, widest = self.check((names, rows, wish), looked=False)
        moved = mixed((wish, *turned(rows, 3)), row(1, 5, -7, 1), 6)
        self.assertEqual(self.check((names, rows, moved), looked=False), (plain, widest))
        nine = mixed((wish,), row(9), 6)
        fars = self.check((names, rows, nine), looked=False)
        self.assertEqual([own(x) for x in fars], [9 * own(plain), 9 * own(widest)])


class Looked(unittest.TestCase):
    TABLE = (("a",), (row(1), row(1), row(1)), row(1, 2, 9))

    def plain(self, table, weights, paper, truth):
        self.assertEqual(plain_holds(table, weights, paper), truth)
        self.assertIs(plain_shown(table, weights, paper), truth)

    def widest(self, table, weights, paper, truth):
        self.assertEqual(widest_holds(table, weights, paper), truth)
        self.assertIs(widest_shown(table, weights, paper), truth)

    def test_plain(self):
        self.plain(self.TABLE, row(2), row(-1, 0, 1), True)
        # Other papers hold too where the wish is met along the way.
        table = (("a",), (row(1), row(1)), row(1, 3))
        for weight in (1, 2, "5/3", 3):
            self.plain(table, row(weight), row(-1, 1), True)
        for weight in (0, "1/2", 4):
            self.plain(table, row(weight), row(-1, 1), False)
        table = (("a",), (row(1), row(0)), row(1, 0))
        for last in (-1, "-1/3", 0, 1):
            self.plain(table, row(1), row(0, last), True)
        self.plain(table, row(1), row(0, "4/3"), False)
        self.plain(table, row(1), row(0, "-4/3"), False)

    def test_plain_of_which_one_part_is_not_so(self):
        # Not the nearest weights.
        self.plain(self.TABLE, row(1), row(-1, 0, 1), False)
        self.plain(self.TABLE, row(3), row(-1, 0, 1), False)
        # A number above 1 or below -1, though it is upright and its sum is how far weights are.
        self.plain(self.TABLE, row(1), row(0, "-9/7", "9/7"), False)
        self.plain(self.TABLE, row(1), row("-9/8", 0, "9/8"), False)
        self.plain((("a",), (row(0),), row(-1)), row(0), row(-1), True)
        self.plain((("a",), (row(2), row(1)), row(2, 2)), row(0), row(-2, 4), False)
        # Not upright, though small and with the sum.
        self.plain(self.TABLE, row(2), row(0, "-1/2", 1), False)
        self.plain(self.TABLE, row(1), row(0, 0, 1), False)
        # The sum is not how far.
        self.plain(self.TABLE, row(2), row("-1/2", 0, "1/2"), False)
        self.plain(self.TABLE, row(2), row(0, 0, 0), False)
        self.plain(self.TABLE, row(2), row(1, 0, -1), False)

    def test_widest(self):
        self.widest(self.TABLE, row(5), row("-1/2", 0, "1/2"), True)
        # A row of which nothing hangs may have its share.
        table = (("a",), (row(1), row(0), row(0)), row(1, 3, -3))
        for weight in (-2, 0, 1, "7/2", 4):
            for paper in (row(0, 1, 0), row(0, 0, -1), row(0, "1/3", "-2/3")):
                self.widest(table, row(weight), paper, True)
        self.widest(table, row(5), row(0, 1, 0), False)

    def test_widest_of_which_one_part_is_not_so(self):
        # Not the nearest weights.
        self.widest(self.TABLE, row(2), row("-1/2", 0, "1/2"), False)
        self.widest(self.TABLE, row(6), row("-1/2", 0, "1/2"), False)
        # More than 1 together, though each is small.
        self.widest(self.TABLE, row(4), row("-5/8", 0, "5/8"), False)
        self.widest(self.TABLE, row(3), row("-3/4", 0, "3/4"), False)
        # Not upright, though small and with the sum.
        self.widest(self.TABLE, row(5), row(0, 0, "4/9"), False)
        self.widest(self.TABLE, row(5), row(0, "-1/4", "1/2"), False)
        # The sum is not how far.
        self.widest(self.TABLE, row(5), row(0, "-1/2", "1/2"), False)
        self.widest(self.TABLE, row(5), row(0, 0, 0), False)
        self.widest(self.TABLE, row(5), row("1/2", 0, "-1/2"), False)
        self.widest(self.TABLE, row(5), row("-1/3", 0, "1/3"), False)

    def test_one_is_not_the_other(self):
        self.widest(self.TABLE, row(5), row(-1, 0, 1), False)
        self.widest(self.TABLE, row(2), row(-1, 0, 1), False)
        self.plain(self.TABLE, row(5), row("-1/2", 0, "1/2"), False)

    def test_met_wishes(self):
        table = (("a", "b"), (row(1, 1), row(1, -1)), row(3, 1))
        self.plain(table, row(2, 1), row(0, 0), True)
        self.widest(table, row(2, 1), row(0, 0), True)
        self.plain(table, row(2, 2), row(0, 0), False)
        self.widest(table, row(2, 2), row(0, 0), False)

    def test_of_any_fractions(self):
        most = 10 ** 300 + 7
        table = (("a",), (row(1), row(1)), row(1, 3))
        self.plain(table, ((most + 1, most),), row(-1, 1), True)
        self.plain(table, ((most - 1, most),), row(-1, 1), False)
        self.widest(table, ((2 * most + 1, most),), row("-1/2", "1/2"), False)
        self.plain(table, row(2), ((-1 - most, most), (most + 1, most)), False)


if __name__ == "__main__":
    unittest.main()
