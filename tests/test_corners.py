"""Promises [2], [3], [14], [15] and [16]: nearlaid/corners/corners.py."""

import copy
import itertools
import random
import signal
import unittest
from fractions import Fraction

from nearlaid.corners.corners import corner_shown, least_corner
from nearlaid.numbers.systems import solved
from tests.support import (
    changed, is_row, mixed, own, row, some_fraction, some_row, some_rows, sum_with, system, told, turned,
)


def question(costs, *lines):
    """A corner question of costs and of lines, in each the last the row's number."""
    return row(*costs), system(*lines)


def holds(costs, rows, answer):
    """Whether what is told holds, by the document's words."""
    asked = [number for line, number in rows]
    columns = turned([line for line, number in rows], len(costs))
    if answer[0] == "none":
        prices = answer[1]
        return all(sum_with(prices, column) <= 0 for column in columns) and sum_with(prices, asked) > 0
    word, numbers, last = answer
    if any(own(x) < 0 for x in numbers) or any(sum_with(line, numbers) != own(number) for line, number in rows):
        return False
    if word == "least":
        dear = all(own(cost) >= sum_with(last, column) for cost, column in zip(costs, columns))
        return dear and sum_with(costs, numbers) == sum_with(last, asked)
    level = all(sum_with(line, last) == 0 for line, number in rows)
    return level and all(own(x) >= 0 for x in last) and sum_with(costs, last) < 0


class Checked(unittest.TestCase):
    def check(self, costs, rows, looked=True):
        """Look at what is told in all parts; tell it."""
        before = copy.deepcopy((costs, rows))
        answer = least_corner(costs, rows)
        self.assertEqual((costs, rows), before)
        self.assertEqual(least_corner(costs, rows), answer)
        self.assertIsInstance(answer, tuple)
        lengths = {
            "least": [len(costs), len(rows)], "none": [len(rows)], "endless": [len(costs), len(costs)],
        }[answer[0]]
        self.assertEqual(len(answer), len(lengths) + 1)
        for part, many in zip(answer[1:], lengths):
            self.assertTrue(is_row(part, many))
        self.assertTrue(holds(costs, rows, answer))
        self.assertIs(corner_shown(costs, rows, answer), True)
        if looked:
            self.check_changed(costs, rows, answer)
        return answer

    def check_changed(self, costs, rows, answer):
        """The looker tells of each thing with one number changed what the document's words do."""
        for part in range(1, len(answer)):
            for at in range(len(answer[part])):
                for by in ((1, 1), (-1, 3)):
                    other = (*answer[:part], changed(answer[part], at, by), *answer[part + 1:])
                    self.assertIs(corner_shown(costs, rows, other), holds(costs, rows, other))


class ByHand(Checked):
    def test_least(self):
        answer = self.check(*question((1, 2), (1, 1, 3)))
        self.assertEqual(answer, ("least", row(3, 0), row(1)))
        answer = self.check(*question((2, 1), (1, 1, 3)))
        self.assertEqual(answer, ("least", row(0, 3), row(1)))
        answer = self.check(*question((-3, -2, 0, 0), (1, 1, 1, 0, 4), (1, 3, 0, 1, 6)))
        self.assertEqual(answer, ("least", row(4, 0, 0, 2), row(-3, 0)))
        # A trade: 3 and 5 of two things, of which (1, 2), (2, 1) and (1, 1) come together.
        answer = self.check(*question((3, 3, "5/2"), (1, 2, 1, 3), (2, 1, 1, 5)))
        self.assertEqual(sum_with(row(3, 3, "5/2"), answer[1]), 8)

    def test_none(self):
        self.assertEqual(self.check(*question((1, 1), (1, 1, -3)))[0], "none")
        self.assertEqual(self.check(*question((1, 1), (-1, -2, 3)))[0], "none")
        self.assertEqual(self.check(*question((0, 0), (1, 1, 3), (1, 1, 4)))[0], "none")
        self.assertEqual(self.check(*question((0, 0), (1, 0, 1), (0, 1, 1), (1, 1, "3/2")))[0], "none")
        self.assertEqual(self.check(*question((-1,), (0, 2)))[0], "none")
        # It has solutions, but in each a number is below 0.
        self.assertEqual(self.check(*question((1, 1), (1, -1, 3), (1, 1, 1)))[0], "none")

    def test_endless(self):
        answer = self.check(*question((-1, 0), (1, -1, 2)))
        self.assertEqual(answer[0], "endless")
        self.assertEqual(self.check(*question((1, -2), (1, -1, 2)))[0], "endless")
        self.assertEqual(self.check(*question((-1, -1, 5), (0, 0, 1, 3)))[0], "endless")
        # A question without numbers that are let is none, though costs would fall for ever.
        self.assertEqual(self.check(*question((-1, 0), (0, 1, -3)))[0], "none")

    def test_costs_that_come_to_nought_along_a_way(self):
        answer = self.check(*question((1, -1), (1, -1, 2)))
        self.assertEqual(answer[0], "least")
        self.assertEqual(sum_with(row(1, -1), answer[1]), 2)

    def test_without_unknowns(self):
        self.assertEqual(self.check((), ()), ("least", (), ()))
        self.assertEqual(self.check(*question((), (0,), (0,)))[:2], ("least", ()))
        self.assertEqual(self.check(*question((), (0,), (3,)))[0], "none")
        self.assertEqual(self.check(*question((), ("-1/3",)))[0], "none")
        self.assertEqual(self.check(*question((), (2,), (-3,)))[0], "none")

    def test_without_rows(self):
        self.assertEqual(self.check(row(1, 0, 2), ()), ("least", row(0, 0, 0), ()))
        answer = self.check(row(1, -1, 2), ())
        self.assertEqual(answer[:2], ("endless", row(0, 0, 0)))

    def test_rows_alike_and_sums(self):
        self.assertEqual(self.check(*question((1, 2), (1, 1, 3), (1, 1, 3)))[:2], ("least", row(3, 0)))
        answer = self.check(*question((1, 2, 3), (1, 1, 0, 3), (0, 1, 1, 2), (1, 2, 1, 5), (-1, 0, 1, -1)))
        self.assertEqual(answer[0], "least")
        self.assertEqual(sum_with(row(1, 2, 3), answer[1]), 5)
        self.assertEqual(self.check(*question((-1, 0), (1, -1, 2), (2, -2, 4), (0, 0, 0)))[0], "endless")
        self.assertEqual(self.check(*question((1, 1), (1, 1, 3), (2, 2, 7)))[0], "none")

    def test_numbers_of_rows_all_nought(self):
        self.assertEqual(self.check(*question((1, 1), (1, 1, 0)))[:2], ("least", row(0, 0)))
        self.assertEqual(self.check(*question((-1, 1), (1, 1, 0)))[:2], ("least", row(0, 0)))
        self.assertEqual(self.check(*question((-1, 0), (1, -1, 0), (2, -2, 0)))[:2], ("endless", row(0, 0)))
        self.assertEqual(self.check(*question((0, 0), (0, 0, 0)))[0], "least")

    def test_costs_all_nought(self):
        answer = self.check(*question((0, 0, 0), (1, 2, 3, 4), (1, -1, 0, 1)))
        self.assertEqual(answer[0], "least")
        self.assertEqual(self.check(*question((0, 0), (1, 1, -4)))[0], "none")

    def test_numbers_below_nought_in_the_rows(self):
        answer = self.check(*question((1, 1, 4), (-1, -2, 0, -5), (0, -1, -1, -2)))
        self.assertEqual(answer[:2], ("least", row(1, 2, 0)))

    def test_what_is_told_is_no_truth_or_other_kind(self):
        told_thing = least_corner(*question((1, 2), (1, 1, 3)))
        self.assertIs(type(told_thing), tuple)
        self.assertIs(type(told_thing[0]), str)


class Rounds(Checked):
    """Questions in which careless choices come round to the same corner again and again."""

    def setUp(self):
        # Where a question does not end, the test shall fail and not hang.
        self.before = signal.signal(signal.SIGALRM, self.too_long)
        signal.alarm(120)

    def tearDown(self):
        signal.alarm(0)
        signal.signal(signal.SIGALRM, self.before)

    def too_long(self, number, frame):
        raise AssertionError("the question does not end")

    def test_lines_that_leave_together(self):
        # Of lines that reach 0 together it matters which leaves: with always the first of them, or
        # always the last, these four come round.
        for costs, *lines in (
            ((2, 1, -1, 0, 1, -1, -2, 0, 0, 0),
             (-1, 2, 2, 1, -2, 2, -1, 1, 0, 0), (-1, -2, 0, 1, -1, -2, -2, 0, 1, 0), (2, 0, 1, -1, 1, 0, -2, 0, 0, 1)),
            ((0, -2, 2, 1, 2, -2, 0, 0, 0),
             (-2, 0, -2, -2, 2, -1, 1, 0, 0), (-1, -2, 1, 2, 0, 1, 0, 1, 0), (0, -1, 2, -1, 1, -2, 0, 0, 1)),
            ((1, 3, 0, 3, 0, -1, -3, 0, -1, 0, 0, 0),
             (0, 2, -1, -1, 2, -1, -1, -2, 0, 1, 0, 0), (0, 2, -1, -3, 1, 3, -2, 3, 3, 0, 1, 0),
             (2, -3, 2, 2, -2, -2, -1, -2, 2, 0, 0, 1)),
            ((4, -9, 8, 2, -6, 0, 7, 0, 0, 0),
             (-9, -7, -2, -1, -4, -1, 3, 1, 0, 0), (5, 2, 9, -4, 8, 6, -4, 0, 1, 0), (-7, -4, 2, -3, 8, -6, 1, 0, 0, 1)),
        ):
            self.check(*question(costs, *[(*line, 0) for line in lines]))

    def test_many_questions_with_numbers_of_nought(self):
        chance = random.Random(16)
        for round_ in range(1500):
            rows, many = chance.randint(2, 4), chance.randint(4, 8)
            most = chance.choice((1, 2, 3, 5))
            lines = []
            for at in range(rows):
                own_unknown = [1 if k == at else 0 for k in range(rows)]
                lines.append([*[chance.randint(-most, most) for k in range(many)], *own_unknown, 0])
            costs = [chance.randint(-most, most) for k in range(many)] + [0] * rows
            answer = self.check(*question(costs, *lines), looked=False)
            self.assertNotEqual(answer[0], "none")

    def test_beale(self):
        costs, rows = question(
            ("-3/4", 20, "-1/2", 6, 0, 0, 0),
            ("1/4", -8, -1, 9, 1, 0, 0, 0), ("1/2", -12, "-1/2", 3, 0, 1, 0, 0), (0, 0, 1, 0, 0, 0, 1, 1),
        )
        answer = self.check(costs, rows)
        self.assertEqual(answer[0], "least")
        self.assertEqual(sum_with(costs, answer[1]), Fraction(-5, 4))

    def test_beale_with_other_costs(self):
        costs, rows = question(
            ("-3/4", 150, "-1/50", 6, 0, 0, 0),
            ("1/4", -60, "-1/25", 9, 1, 0, 0, 0), ("1/2", -90, "-1/50", 3, 0, 1, 0, 0), (0, 0, 1, 0, 0, 0, 1, 1),
        )
        answer = self.check(costs, rows)
        self.assertEqual(sum_with(costs, answer[1]), Fraction(-1, 20))

    def test_kuhn(self):
        costs, rows = question(
            (-2, -3, 1, 12, 0, 0),
            (-2, -9, 1, 9, 1, 0, 0), ("1/3", 1, "-1/3", -2, 0, 1, 0),
        )
        self.assertEqual(self.check(costs, rows)[0], "endless")

    def test_marshall_and_suurballe(self):
        costs, rows = question(
            (-10, 57, 9, 24, 0, 0, 0),
            ("1/2", "-11/2", "-5/2", 9, 1, 0, 0, 0), ("1/2", "-3/2", "-1/2", 1, 0, 1, 0, 0),
            (1, 0, 0, 0, 0, 0, 1, 1),
        )
        answer = self.check(costs, rows)
        self.assertEqual(sum_with(costs, answer[1]), -1)

    def test_all_orders_of_beale(self):
        first, lines = ("-3/4", 20, "-1/2", 6, 0, 0, 0), (
            ("1/4", -8, -1, 9, 1, 0, 0, 0), ("1/2", -12, "-1/2", 3, 0, 1, 0, 0), (0, 0, 1, 0, 0, 0, 1, 1),
        )
        for order in itertools.islice(itertools.permutations(range(7)), 0, 5040, 11):
            costs, rows = question([first[k] for k in order], *[[*[x[k] for k in order], x[7]] for x in lines])
            answer = self.check(costs, rows, looked=False)
            self.assertEqual(sum_with(costs, answer[1]), Fraction(-5, 4))

    def test_shares_of_work(self):
        """Three to three: nine unknowns, six rows, one of which is a sum, and corners in which many are 0."""
        prices = (4, 1, 3, 2, 0, 5, 3, 2, 2)
        lines = [[1 if k // 3 == at else 0 for k in range(9)] + [1] for at in range(3)]
        lines += [[1 if k % 3 == at else 0 for k in range(9)] + [1] for at in range(3)]
        costs, rows = question(prices, *lines)
        answer = self.check(costs, rows)
        cheapest = min(sum(prices[3 * k + at] for k, at in enumerate(order)) for order in itertools.permutations(range(3)))
        self.assertEqual(sum_with(costs, answer[1]), cheapest)

    def test_a_long_way_round_a_cube(self):
        """A cube bent so that it has a rising way along all its corners."""
        many = 6
        lines = []
        for at in range(many):
            line = [2 * 2 ** (at - k) if k < at else 1 if k == at else 0 for k in range(many)]
            lines.append(line + [1 if k == at else 0 for k in range(many)] + [5 ** (at + 1)])
        costs, rows = question([-(2 ** (many - 1 - k)) for k in range(many)] + [0] * many, *lines)
        answer = self.check(costs, rows)
        self.assertEqual(sum_with(costs, answer[1]), -(5 ** many))


class Sought(Checked):
    def some_question(self, chance, many, rows, figures=1):
        """A question with rows that are noughts or sums, mostly one that has an answer."""
        lines = some_rows(chance, rows, many, figures)
        numbers = tuple(told(abs(own(x))) if chance.randrange(2) else (0, 1) for x in some_row(chance, many))
        asked = tuple(told(sum_with(line, numbers)) for line in lines)
        if asked and chance.randrange(4) == 0:
            asked = changed(asked, chance.randrange(rows))
        prices = some_row(chance, rows)
        costs = tuple(told(sum_with(column, prices) + abs(own(some_fraction(chance)))) for column in turned(lines, many))
        if costs and chance.randrange(4) == 0:
            costs = changed(costs, chance.randrange(many), (-5, 1))
        return costs, tuple(zip(lines, asked))

    def test_of_all_sizes(self):
        chance = random.Random(12)
        words = {"least": 0, "none": 0, "endless": 0}
        for many in range(13):
            for rows in range(13):
                for figures in (1, 2):
                    costs, asked = self.some_question(chance, many, rows, figures)
                    words[self.check(costs, asked, looked=many + rows < 10)[0]] += 1
        self.assertGreater(min(words.values()), 20)

    def test_many_small_ones(self):
        """Small numbers bring many noughts; of the least no corner is cheaper."""
        chance = random.Random(13)
        words = {"least": 0, "none": 0, "endless": 0}
        for round_ in range(1200):
            many, rows = chance.randrange(6), chance.randrange(5)
            lines = [[chance.randint(-1, 1) for k in range(many)] + [chance.randint(-1, 1)] for at in range(rows)]
            costs, asked = question([chance.randint(-1, 2) for k in range(many)], *lines)
            answer = self.check(costs, asked, looked=False)
            words[answer[0]] += 1
            self.check_corners(costs, asked, answer)
        self.assertGreater(min(words.values()), 100)

    def check_corners(self, costs, rows, answer):
        """All corners looked at one by one: they are there just where it is not none."""
        cheapest = []
        for chosen in itertools.product((False, True), repeat=len(costs)):
            places = [k for k, taken in enumerate(chosen) if taken]
            asked = tuple((tuple(line[k] for k in places), number) for line, number in rows)
            found = solved(asked, len(places))
            if found[0] == "solved" and not found[2] and all(x[0] >= 0 for x in found[1]):
                cheapest.append(sum_with([costs[k] for k in places], found[1]))
        self.assertEqual(answer[0] == "none", not cheapest)
        if answer[0] == "least":
            self.assertEqual(sum_with(costs, answer[1]), min(cheapest))

    def test_twelve_figures(self):
        chance = random.Random(14)
        for many, rows in ((12, 12), (12, 6), (6, 12), (12, 9)):
            costs, asked = self.some_question(chance, many, rows, 12)
            self.check(costs, asked, looked=False)
            asked = tuple((some_row(chance, many, 12), some_fraction(chance, 12)) for at in range(rows))
            self.check(some_row(chance, many, 12), asked, looked=False)

    def test_told_is_handed_on(self):
        costs, rows = question((3, 3, "5/2"), (1, 2, 1, 3), (2, 1, 1, 5))
        word, numbers, prices = self.check(costs, rows)
        self.check(numbers, rows)
        self.check(costs, tuple((line, price) for (line, number), price in zip(rows, prices)))


class Looked(unittest.TestCase):
    def shown(self, asked, answer, truth):
        self.assertEqual(holds(*asked, answer), truth)
        self.assertIs(corner_shown(*asked, answer), truth)

    def test_least(self):
        asked = question((1, 1, 3), (1, 1, 0, 3), (0, 1, 1, 1))
        self.shown(asked, ("least", row(2, 1, 0), row(1, 0)), True)
        # Another with the same costs, and other prices, hold as well.
        asked = question((1, 1), (1, 1, 3), (2, 2, 6))
        for numbers in (row(3, 0), row(0, 3), row("3/2", "3/2")):
            for prices in (row(1, 0), row(0, "1/2"), row(3, -1)):
                self.shown(asked, ("least", numbers, prices), True)

    def test_least_of_which_one_part_is_not_so(self):
        asked = question((1, 2), (1, 1, 3))
        self.shown(asked, ("least", row(3, 0), row(1)), True)
        # It does not solve the row, though the sums are the same.
        self.shown(asked, ("least", row(1, 1), row(1)), False)
        # A number is below 0, though it solves the row and the sums are the same.
        self.shown(question((1, 1), (1, 1, 3)), ("least", row(4, -1), row(1)), False)
        # A cost is less than the prices' sum with its column.
        self.shown(asked, ("least", row(0, 3), row(2)), False)
        # The sums are not the same.
        self.shown(asked, ("least", row(0, 3), row(1)), False)
        self.shown(asked, ("least", row(3, 0), row(0)), False)
        self.shown(asked, ("least", row(3, 0), row("1/2")), False)
        # One of two rows is not solved, the other is.
        asked = question((0, 0), (1, 1, 3), (1, -1, 1))
        self.shown(asked, ("least", row(2, 1), row(0, 0)), True)
        self.shown(asked, ("least", row(1, 2), row(0, 0)), False)
        self.shown(asked, ("least", row(1, 0), row(0, 0)), False)

    def test_none(self):
        asked = question((1, 1), (1, 1, 3), (1, 1, 4))
        self.shown(asked, ("none", row(-1, 1)), True)
        self.shown(asked, ("none", row(-5, 5)), True)
        # Below 0 is let for a column, above is not.
        self.shown(asked, ("none", row("-7/6", 1)), True)
        self.shown(asked, ("none", row("-5/6", 1)), False)
        # With the rows' numbers 0, or below.
        self.shown(asked, ("none", row(-4, 3)), False)
        self.shown(asked, ("none", row(0, 0)), False)
        self.shown(asked, ("none", row(1, -1)), False)
        # One column alone is above 0.
        asked = question((0, 0), (1, -1, 1))
        self.shown(asked, ("none", row(1)), False)
        self.shown(question((0, 0), (0, -1, 1)), ("none", row(1)), True)

    def test_endless(self):
        asked = question((-1, 0, 1), (1, -1, 0, 2))
        self.shown(asked, ("endless", row(2, 0, 0), row(1, 1, 0)), True)
        self.shown(asked, ("endless", row(5, 3, 7), row(2, 2, 1)), True)
        # The numbers do not solve it, or one is below 0.
        self.shown(asked, ("endless", row(3, 0, 0), row(1, 1, 0)), False)
        self.shown(asked, ("endless", row(1, -1, 0), row(1, 1, 0)), False)
        self.shown(asked, ("endless", row(2, 0, -1), row(1, 1, 0)), False)
        # The way is no solution with nought, or one is below 0.
        self.shown(asked, ("endless", row(2, 0, 0), row(1, 0, 0)), False)
        self.shown(asked, ("endless", row(2, 0, 0), row(1, 1, -1)), False)
        self.shown(question((1, 0), (1, -1, 2)), ("endless", row(2, 0), row(-1, -1)), False)
        # Its costs come to 0, or above.
        self.shown(asked, ("endless", row(2, 0, 0), row(1, 1, 1)), False)
        self.shown(asked, ("endless", row(2, 0, 0), row(1, 1, 2)), False)
        self.shown(asked, ("endless", row(2, 0, 0), row(0, 0, 0)), False)

    def test_without_unknowns_and_rows(self):
        self.shown(((), ()), ("least", (), ()), True)
        self.shown(((), ()), ("none", ()), False)
        self.shown(((), ()), ("endless", (), ()), False)
        asked = question((), (3,), (0,))
        self.shown(asked, ("least", (), row(0, 0)), False)
        self.shown(asked, ("none", row(1, -7)), True)
        self.shown(asked, ("none", row(0, 1)), False)
        self.shown((row(1, -1), ()), ("endless", row(0, 4), row(1, 2)), True)
        self.shown((row(1, -1), ()), ("least", row(0, 0), ()), False)
        self.shown((row(1, 0), ()), ("least", row(0, 4), ()), True)
        self.shown((row(1, 0), ()), ("least", row(1, 4), ()), False)

    def test_of_any_fractions(self):
        most = 10 ** 300 + 7
        asked = question((1, 1), (1, 1, 3), (2, 2, 6))
        self.shown(asked, ("least", ((1, most), (3 * most - 1, most)), ((most, 1), (1 - most, 2))), True)
        self.shown(asked, ("least", ((1, most), (3 * most - 2, most)), ((most, 1), (1 - most, 2))), False)

    def test_mixed_answers_hold(self):
        """Between two least ones all are least."""
        costs, rows = question((1, 1, 5), (1, 1, 2, 3))
        for share in (0, "1/3", "1/2", 1):
            numbers = mixed((row(3, 0, 0), row(0, 3, 0)), row(share, 1 - Fraction(share)), 3)
            self.shown((costs, rows), ("least", numbers, row(1)), True)


if __name__ == "__main__":
    unittest.main()
