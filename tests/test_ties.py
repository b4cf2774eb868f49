"""Promises [2], [3], [12] and [13]: nearlaid/tables/ties.py."""

import copy
import random
import unittest

from nearlaid.numbers.systems import solved
from nearlaid.tables.nearest import nearest
from nearlaid.tables.ties import nearest_tied, tied_shown
from tests.support import (
    changed, is_fraction, is_row, mixed, own, row, some_row, some_table, some_ties, sum_with, system, told, turned,
)


def holds(table, ties, weights, pulls):
    """By the document's words: the ties are fulfilled, and the pulls show that none are nearer."""
    names, rows, wish = table
    left = [told(own(w) - sum_with(line, weights)) for line, w in zip(rows, wish)]
    columns = turned(rows, len(names))
    pulled = turned([line for line, number in ties], len(names))
    return all(sum_with(line, weights) == own(number) for line, number in ties) and all(
        sum_with(column, left) == sum_with(pull, pulls) for column, pull in zip(columns, pulled)
    )


class Checked(unittest.TestCase):
    def check(self, table, ties):
        """Look at what is told in all parts; tell it."""
        before = copy.deepcopy((table, ties))
        answer = nearest_tied(table, ties)
        self.assertEqual((table, ties), before)
        self.assertEqual(nearest_tied(table, ties), answer)
        self.assertIsInstance(answer, tuple)
        if answer[0] == "none":
            self.check_none(table, ties, answer)
        else:
            self.check_near(table, ties, answer)
            self.check_looker(table, ties, answer)
        return answer

    def check_none(self, table, ties, answer):
        word, paper = answer
        self.assertTrue(is_row(paper, len(ties)))
        for column in turned([line for line, number in ties], len(table[0])):
            self.assertEqual(sum_with(paper, column), 0)
        self.assertEqual(sum_with(paper, [number for line, number in ties]), 1)

    def check_near(self, table, ties, answer):
        names, rows, wish = table
        word, weights, left, far, pulls = answer
        self.assertEqual(word, "near")
        self.assertTrue(is_row(weights, len(names)))
        self.assertTrue(is_row(pulls, len(ties)))
        self.assertTrue(is_row(left, len(rows)))
        self.assertTrue(is_fraction(far))
        self.assertEqual(left, tuple(told(own(w) - sum_with(line, weights)) for line, w in zip(rows, wish)))
        self.assertEqual(own(far), sum_with(left, left))
        self.assertTrue(holds(table, ties, weights, pulls))
        for way in self.level(table, ties):
            self.assertEqual(sum_with(way, weights), 0)

    def level(self, table, ties):
        """The ways that change neither sums nor ties."""
        lines = (*table[1], *[line for line, number in ties])
        return solved(tuple((line, (0, 1)) for line in lines), len(table[0]))[2]

    def check_looker(self, table, ties, answer):
        word, weights, left, far, pulls = answer
        self.assertIs(tied_shown(table, ties, weights, pulls), True)
        for way in self.level(table, ties):
            along = mixed((weights, way), row(1, "-3/2"), len(weights))
            self.assertIs(tied_shown(table, ties, along, pulls), True)
        for at in range(len(weights)):
            other = changed(weights, at, (1, 3))
            self.assertIs(tied_shown(table, ties, other, pulls), holds(table, ties, other, pulls))
        for at in range(len(pulls)):
            other = changed(pulls, at, (-1, 5))
            self.assertIs(tied_shown(table, ties, weights, other), holds(table, ties, weights, other))


class ByHand(Checked):
    def test_one_tie(self):
        table = (("a", "b"), (row(1, 0), row(0, 1)), row(3, 5))
        answer = self.check(table, system((1, 1, 4)))
        self.assertEqual(answer, ("near", row(1, 3), row(2, 2), (8, 1), row(2)))
        answer = self.check(table, system((2, 0, 4)))
        self.assertEqual(answer, ("near", row(2, 5), row(1, 0), (1, 1), row("1/2")))

    def test_no_ties(self):
        table = (("a", "b"), (row(1, 0), row(1, 1), row(1, 2)), row(6, 0, 0))
        self.assertEqual(self.check(table, ()), ("near", *nearest(table), ()))
        table = (("a", "b"), (row(1, 1), row(1, 1)), row(1, 3))
        self.assertEqual(self.check(table, ()), ("near", *nearest(table), ()))

    def test_ties_told_twice(self):
        table = (("a", "b"), (row(1, 0), row(0, 1)), row(3, 5))
        word, weights, left, far, pulls = self.check(table, system((1, 1, 4), (1, 1, 4)))
        self.assertEqual((weights, left, far), (row(1, 3), row(2, 2), (8, 1)))
        self.assertIs(tied_shown(table, system((1, 1, 4), (1, 1, 4)), weights, row(5, -3)), True)
        self.assertIs(tied_shown(table, system((1, 1, 4), (1, 1, 4)), weights, row(5, -2)), False)

    def test_ties_that_are_sums(self):
        table = (("a", "b"), (row(1, 0), row(0, 1)), row(3, 5))
        answer = self.check(table, system((1, 1, 4), (1, -1, 0), (3, 1, 8), (0, 2, 4)))
        self.assertEqual(answer[:4], ("near", row(2, 2), row(1, 3), (10, 1)))

    def test_ties_of_noughts(self):
        table = (("a", "b"), (row(1, 0), row(0, 1)), row(3, 5))
        answer = self.check(table, system((0, 0, 0)))
        self.assertEqual(answer[:4], ("near", row(3, 5), row(0, 0), (0, 1)))
        self.assertEqual(self.check(table, system((0, 0, 1))), ("none", row(1)))

    def test_none(self):
        table = (("a", "b"), (row(1, 0), row(0, 1)), row(3, 5))
        self.assertEqual(self.check(table, system((1, 1, 4), (1, 1, 5)))[0], "none")
        self.assertEqual(self.check(table, system((1, 1, 4), (1, -1, 0), (1, 0, 3)))[0], "none")
        self.assertEqual(self.check(table, system((1, 1, 4), (0, 0, "-1/7")))[0], "none")

    def test_no_columns(self):
        table = ((), ((), ()), row(1, 2))
        self.assertEqual(self.check(table, ()), ("near", (), row(1, 2), (5, 1), ()))
        self.assertEqual(self.check(table, system((0,), (0,)))[:4], ("near", (), row(1, 2), (5, 1)))
        self.assertEqual(self.check(table, system((0,), (3,)))[0], "none")

    def test_no_rows(self):
        table = (("a", "b"), (), ())
        # Without rows the shortest weights that fulfil the tie are told.
        self.assertEqual(self.check(table, system((1, 2, 5))), ("near", row(1, 2), (), (0, 1), row(0)))
        self.assertEqual(self.check(table, system((0, 0, 5)))[0], "none")
        self.assertEqual(self.check(((), (), ()), ()), ("near", (), (), (0, 1), ()))

    def test_shortest(self):
        table = (("a", "b", "c"), (row(1, 1, 0),), row(2))
        answer = self.check(table, system((0, 0, 1, 7)))
        self.assertEqual(answer, ("near", row(1, 1, 7), row(0), (0, 1), row(0)))
        # Among those with b and c alike, which of them bear the sum does not matter but for shortness.
        table = (("a", "b", "c"), (row(1, 1, 1),), row(3))
        self.assertEqual(self.check(table, system((1, 0, 0, 1)))[1], row(1, 1, 1))


class Looked(Checked):
    def test_others_that_are_as_near(self):
        table = (("a", "b", "c"), (row(1, 1, 0), row(0, 0, 1)), row(2, 4))
        ties = system((0, 0, 1, 1))
        word, weights, left, far, pulls = self.check(table, ties)
        self.assertEqual((weights, pulls), (row(1, 1, 1), row(3)))
        self.assertIs(tied_shown(table, ties, row(5, -3, 1), row(3)), True)
        self.assertIs(tied_shown(table, ties, row(5, -2, 1), row(3)), False)
        # As near as the nearest, but the tie is not fulfilled.
        self.assertIs(tied_shown(table, ties, row(1, 1, 4), row(0)), False)
        self.assertIs(tied_shown(table, ties, row(1, 1, 1), row(2)), False)
        self.assertIs(tied_shown(table, ties, row(1, 1, 1), row(-3)), False)

    def test_fulfilled_but_not_nearest(self):
        table = (("a", "b"), (row(1, 0), row(0, 1)), row(3, 5))
        ties = system((1, 1, 4))
        for pulls in (row(0), row(1), row(2), row("5/2")):
            self.assertIs(tied_shown(table, ties, row(2, 2), pulls), False)
        self.assertIs(tied_shown(table, ties, row(3, 5), row(0)), False)

    def test_without_ties(self):
        table = (("a",), (row(1), row(1)), row(1, 3))
        self.assertIs(tied_shown(table, (), row(2), ()), True)
        self.assertIs(tied_shown(table, (), row(3), ()), False)

    def test_ties_that_none_fulfils(self):
        table = (("a",), (row(1),), row(2))
        ties = system((1, 1), (1, 2))
        for weight in (1, 2, "3/2"):
            self.assertIs(tied_shown(table, ties, row(weight), row(0, 0)), False)

    def test_of_any_fractions(self):
        table = (("a", "b"), (row(1, 0), row(0, 1)), row(3, 5))
        most = 10 ** 400 + 1
        for pull in ((most, 7), (2 * most + 1, most)):
            self.assertIs(tied_shown(table, system((1, 1, 4)), row(1, 3), (pull,)), False)
        twice = system((1, 1, 4), (1, 1, 4))
        self.assertIs(tied_shown(table, twice, row(1, 3), ((most, 7), (14 - most, 7))), True)


class Sought(Checked):
    def test_of_all_sizes(self):
        chance = random.Random(9)
        words = {"near": 0, "none": 0}
        for columns in range(7):
            for rows in range(0, 11, 2):
                for many in range(5):
                    table = some_table(chance, columns, rows)
                    words[self.check(table, some_ties(chance, many, some_row(chance, columns)))[0]] += 1
        self.assertGreater(min(words.values()), 20)

    def test_many_small_ones(self):
        chance = random.Random(10)
        for round_ in range(400):
            columns, rows, many = chance.randrange(4), chance.randrange(4), chance.randrange(4)
            lines = tuple(row(*[chance.randint(-1, 1) for k in range(columns)]) for at in range(rows + many))
            table = (tuple("abcdef"[:columns]), lines[:rows], row(*[chance.randint(-2, 2) for k in range(rows)]))
            self.check(table, tuple((line, (chance.randint(-1, 1), 1)) for line in lines[rows:]))

    def test_twelve_figures(self):
        chance = random.Random(11)
        table = some_table(chance, 6, 10, 12)
        ties = tuple((some_row(chance, 6, 12), some_row(chance, 1, 12)[0]) for k in range(4))
        self.assertEqual(self.check(table, ties)[0], "near")
        table = some_table(chance, 3, 5, 12)
        ties = tuple((some_row(chance, 3, 12), some_row(chance, 1, 12)[0]) for k in range(4))
        self.assertEqual(self.check(table, ties)[0], "none")


if __name__ == "__main__":
    unittest.main()
