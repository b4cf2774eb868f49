"""Promises [2], [3], [9], [10] and [11]: nearlaid/tables/nearest.py."""

import copy
import random
import unittest

from nearlaid.numbers.systems import solved
from nearlaid.tables.nearest import farther, flat_ways, is_nearest, nearest
from nearlaid.tables.texts import far_of, left_of
from tests.support import (
    changed, free_places, is_fraction, is_row, mixed, own, row, some_row, some_table, sum_with, told, turned,
)


class Checked(unittest.TestCase):
    def check(self, table):
        """Look at all that is told of the table; tell the nearest."""
        before = copy.deepcopy(table)
        answer = nearest(table)
        ways = flat_ways(table)
        self.check_nearest(table, answer)
        self.check_flat(table, ways)
        for way in ways:
            self.assertEqual(sum_with(way, answer[0]), 0)
        self.check_others(table, answer, ways)
        self.assertEqual(table, before)
        self.assertEqual(nearest(table), answer)
        self.assertEqual(flat_ways(table), ways)
        return answer

    def check_nearest(self, table, answer):
        names, rows, wish = table
        self.assertIsInstance(answer, tuple)
        weights, left, far = answer
        self.assertTrue(is_row(weights, len(names)))
        self.assertTrue(is_row(left, len(rows)))
        self.assertTrue(is_fraction(far))
        self.assertEqual(left, tuple(told(own(w) - sum_with(line, weights)) for line, w in zip(rows, wish)))
        self.assertEqual(own(far), sum_with(left, left))
        for column in turned(rows, len(names)):
            self.assertEqual(sum_with(column, left), 0)

    def check_flat(self, table, ways):
        names, rows, wish = table
        places = free_places(rows, len(names))
        self.assertIsInstance(ways, tuple)
        self.assertEqual(len(ways), len(places))
        for place, way in zip(places, ways):
            self.assertTrue(is_row(way, len(names)))
            for line in rows:
                self.assertEqual(sum_with(line, way), 0)
            for other in places:
                self.assertEqual(way[other], row(1 if other == place else 0)[0])
        self.assertEqual(ways, solved(tuple((line, (0, 1)) for line in rows), len(names))[2])

    def check_others(self, table, answer, ways):
        weights, left, far = answer
        self.check_farther(table, weights, far)
        numbers = some_row(random.Random(len(ways)), len(ways), 3)
        along = mixed((weights, *ways), ((1, 1), *numbers), len(weights))
        self.assertEqual(left_of(table, along), left)
        self.assertIs(is_nearest(table, along), True)
        self.check_farther(table, along, far)
        for at in range(len(weights)):
            self.check_farther(table, changed(weights, at, (-2, 7)), far)
            self.check_farther(table, changed(along, at), far)
        self.check_farther(table, row(*range(len(weights))), far)

    def check_farther(self, table, weights, far):
        more = farther(table, weights)
        self.assertTrue(is_fraction(more))
        self.assertEqual(own(more), own(far_of(table, weights)) - own(far))
        self.assertGreaterEqual(own(more), 0)
        self.assertIs(is_nearest(table, weights), more == (0, 1))


class ByHand(Checked):
    def test_one_column(self):
        table = (("a",), (row(1), row(1)), row(1, 3))
        self.assertEqual(self.check(table), (row(2), row(-1, 1), (2, 1)))
        self.assertEqual(farther(table, row(3)), (2, 1))
        self.assertEqual(farther(table, row(0)), (8, 1))
        table = (("a",), (row(1), row(2), row(3)), row(1, 1, 1))
        self.assertEqual(self.check(table), (row("3/7"), row("4/7", "1/7", "-2/7"), (3, 7)))

    def test_a_line_through_points(self):
        table = (("a", "b"), (row(1, 0), row(1, 1), row(1, 2)), row(6, 0, 0))
        self.assertEqual(self.check(table), (row(5, -3), row(1, -2, 1), (6, 1)))

    def test_met(self):
        table = (("a", "b"), (row(1, 1), row(1, -1)), row(3, 1))
        self.assertEqual(self.check(table), (row(2, 1), row(0, 0), (0, 1)))

    def test_no_columns(self):
        table = ((), ((), ()), row(3, "-1/2"))
        self.assertEqual(self.check(table), ((), row(3, "-1/2"), (37, 4)))
        self.assertEqual(flat_ways(table), ())
        self.assertIs(is_nearest(table, ()), True)
        self.assertEqual(farther(table, ()), (0, 1))

    def test_no_rows(self):
        table = (("a", "b"), (), ())
        self.assertEqual(self.check(table), (row(0, 0), (), (0, 1)))
        self.assertEqual(flat_ways(table), (row(1, 0), row(0, 1)))
        self.assertIs(is_nearest(table, row(5, "-1/3")), True)
        self.assertEqual(farther(table, row(5, "-1/3")), (0, 1))

    def test_neither(self):
        table = ((), (), ())
        self.assertEqual(self.check(table), ((), (), (0, 1)))
        self.assertEqual(flat_ways(table), ())
        self.assertIs(is_nearest(table, ()), True)

    def test_columns_of_noughts(self):
        table = (("a", "b"), (row(0, 2), row(0, 0)), row(3, 4))
        self.assertEqual(self.check(table), (row(0, "3/2"), row(0, 4), (16, 1)))
        self.assertEqual(flat_ways(table), (row(1, 0),))
        table = (("a", "b"), (row(0, 0),), row(5))
        self.assertEqual(self.check(table), (row(0, 0), row(5), (25, 1)))

    def test_columns_alike(self):
        table = (("a", "b"), (row(1, 1), row(1, 1)), row(1, 3))
        self.assertEqual(self.check(table), (row(1, 1), row(-1, 1), (2, 1)))
        self.assertEqual(flat_ways(table), (row(-1, 1),))
        self.assertIs(is_nearest(table, row(2, 0)), True)
        self.assertIs(is_nearest(table, row(2, 1)), False)
        self.assertEqual(farther(table, row(2, 1)), (2, 1))

    def test_columns_that_are_sums(self):
        # The third column is the sum of the two others: the shortest weights share it out.
        table = (("a", "b", "c"), (row(1, 0, 1), row(0, 1, 1)), row(3, 0))
        self.assertEqual(self.check(table), (row(2, -1, 1), row(0, 0), (0, 1)))
        self.assertEqual(flat_ways(table), (row(-1, -1, 1),))
        table = (("a", "b"), (row(1, 2),), row(5))
        self.assertEqual(self.check(table), (row(1, 2), row(0), (0, 1)))

    def test_more_columns_than_rows(self):
        table = (("a", "b", "c"), (row(1, 1, 1),), row(1))
        self.assertEqual(self.check(table), (row("1/3", "1/3", "1/3"), row(0), (0, 1)))
        self.assertEqual(flat_ways(table), (row(-1, 1, 0), row(-1, 0, 1)))

    def test_wish_of_noughts(self):
        table = (("a", "b"), (row(1, 2), row(3, 4), row(5, 6)), row(0, 0, 0))
        self.assertEqual(self.check(table), (row(0, 0), row(0, 0, 0), (0, 1)))

    def test_others_that_are_not_nearest(self):
        table = (("a", "b"), (row(1, 0), row(0, 1), row(1, 1)), row(1, 1, 1))
        self.assertEqual(self.check(table)[0], row("2/3", "2/3"))
        for weights in (row(0, 0), row("2/3", "3/4"), row("3/4", "2/3"), row("1/2", "5/6"), row("-2/3", "-2/3")):
            self.assertIs(is_nearest(table, weights), False)
            self.assertGreater(own(farther(table, weights)), 0)


class Sought(Checked):
    def test_of_all_sizes(self):
        chance = random.Random(3)
        for columns in range(7):
            for rows in range(11):
                for figures in (1, 1, 2):
                    self.check(some_table(chance, columns, rows, figures))

    def test_many_small_ones(self):
        chance = random.Random(4)
        for round_ in range(400):
            columns, rows = chance.randrange(5), chance.randrange(5)
            lines = tuple(row(*[chance.randint(-1, 1) for k in range(columns)]) for at in range(rows))
            self.check((tuple("abcdef"[:columns]), lines, row(*[chance.randint(-2, 2) for k in range(rows)])))

    def test_twelve_figures(self):
        chance = random.Random(5)
        for columns, rows in ((6, 10), (5, 3), (2, 10), (6, 6)):
            self.check(some_table(chance, columns, rows, 12))

    def test_told_is_handed_on(self):
        chance = random.Random(6)
        names, rows, wish = some_table(chance, 3, 4, 3)
        weights, left, far = nearest((names, rows, wish))
        again = self.check((names, rows, left))
        self.assertEqual(again, (row(0, 0, 0), left, far))
        self.check((names, (*rows, weights), (*wish, far)))

    def test_sums_of_wishes(self):
        chance = random.Random(7)
        names, rows, wish = some_table(chance, 4, 6)
        other = some_row(chance, 6)
        both = nearest((names, rows, mixed((wish, other), row(1, -3), 6)))
        parts = (nearest((names, rows, wish)), nearest((names, rows, other)))
        self.assertEqual(both[0], mixed([part[0] for part in parts], row(1, -3), 4))
        self.assertEqual(both[1], mixed([part[1] for part in parts], row(1, -3), 6))

    def test_names_do_not_matter(self):
        chance = random.Random(8)
        names, rows, wish = some_table(chance, 3, 5)
        self.assertEqual(nearest((("z", "ab", "a"), rows, wish)), nearest((names, rows, wish)))


class Kept(unittest.TestCase):
    def test_nothing_is_changed(self):
        # Lists stand in for tuples here, to show that nothing is written to them.
        table = [["a", "b"], [list(row(1, 2)), list(row(3, 4)), list(row(1, 1))], list(row(1, 2, 3))]
        weights = list(row(1, "1/2"))
        before = copy.deepcopy((table, weights))
        answer = nearest(table)
        is_nearest(table, weights)
        farther(table, weights)
        flat_ways(table)
        self.assertEqual((table, weights), before)
        table[2][0] = (7, 1)
        self.assertNotEqual(nearest(table), answer)
        self.assertEqual(nearest(before[0]), answer)


if __name__ == "__main__":
    unittest.main()
