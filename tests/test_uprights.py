"""Promises [2], [3], [32] and [33]: nearlaid/tables/uprights.py."""

import copy
import itertools
import random
import unittest
from fractions import Fraction

from nearlaid.tables.nearest import nearest
from nearlaid.tables.uprights import brings, put_together, uprights
from tests.support import is_fraction, is_row, own, row, some_row, some_table, sum_with, told, turned

TABLE = (("a", "b"), (row(1, 0), row(1, 1), row(1, 2)), row(6, 0, 0))


def far_ahead(table, order, many):
    """How far the nearest sum by the first so many columns of an order is."""
    names, rows, wish = table
    places = order[:many]
    part = (tuple(names[k] for k in places), tuple(tuple(line[k] for k in places) for line in rows), wish)
    return own(nearest(part)[2])


class Uprights(unittest.TestCase):
    def check(self, table):
        """Look at the pairs by the document's words; tell them."""
        before = copy.deepcopy(table)
        pairs = uprights(table)
        self.assertEqual(table, before)
        self.assertEqual(uprights(table), pairs)
        self.assertIsInstance(pairs, tuple)
        columns = turned(table[1], len(table[0]))
        self.assertEqual(len(pairs), len(columns))
        for k, pair in enumerate(pairs):
            self.assertIsInstance(pair, tuple)
            upright, parts = pair
            self.assertTrue(is_row(upright, len(table[1])))
            self.assertTrue(is_row(parts, k))
            for (ahead, ahead_parts), part in zip(pairs[:k], parts):
                self.assertEqual(sum_with(upright, ahead), 0)
                if all(number == (0, 1) for number in ahead):
                    self.assertEqual(part, (0, 1))
            sums = [own(x) for x in upright]
            for (ahead, ahead_parts), part in zip(pairs[:k], parts):
                sums = [x + own(part) * own(y) for x, y in zip(sums, ahead)]
            self.assertEqual(tuple(told(x) for x in sums), columns[k])
        self.assertEqual(put_together(pairs), tuple(columns))
        return pairs

    def test_by_hand(self):
        self.assertEqual(self.check(TABLE), ((row(1, 1, 1), ()), (row(-1, 0, 1), row(1))))
        table = (("a", "b"), (row(3, 1), row(4, 0)), row(0, 0))
        self.assertEqual(self.check(table), ((row(3, 4), ()), (row("16/25", "-12/25"), row("3/25"))))

    def test_no_columns_and_no_rows(self):
        self.assertEqual(self.check(((), (), ())), ())
        self.assertEqual(self.check(((), ((), ()), row(1, 2))), ())
        self.assertEqual(self.check((("a", "b"), (), ())), (((), ()), ((), row(0))))

    def test_columns_nought_alike_and_sums(self):
        table = (("a", "b", "c", "d"), (row(0, 1, 1, 2), row(0, 2, 2, 3)), row(0, 0))
        pairs = self.check(table)
        self.assertEqual(pairs[0], (row(0, 0), ()))
        self.assertEqual(pairs[1], (row(1, 2), row(0)))
        self.assertEqual(pairs[2], (row(0, 0), row(0, 1)))
        self.assertEqual(pairs[3], (row("2/5", "-1/5"), row(0, "8/5", 0)))
        table = (("a", "b", "c"), (row(1, 0, 3), row(1, 1, 5)), row(0, 0))
        self.assertEqual(self.check(table)[2][0], row(0, 0))

    def test_of_all_sizes(self):
        chance = random.Random(1)
        for columns in range(7):
            for rows in (0, 1, 2, 4, 7, 10):
                self.check(some_table(chance, columns, rows))

    def test_twelve_figures(self):
        self.check(some_table(random.Random(2), 6, 10, 12))

    def test_put_together_of_any_pairs(self):
        self.assertEqual(put_together(()), ())
        pairs = ((row(1, 2), ()), (row(3, 4), row("1/2")), (row(0, 1), row(2, -1)))
        self.assertEqual(put_together(pairs), (row(1, 2), row("7/2", 5), row(-1, 1)))
        self.assertIsInstance(put_together(pairs), tuple)

    def test_told_things_handed_on(self):
        pairs = self.check(some_table(random.Random(3), 4, 5, 2))
        columns = [upright for upright, parts in pairs]
        table = (tuple("abcd"), tuple(turned(columns, 5)), row(1, 2, 3, 4, 5))
        again = self.check(table)
        self.assertEqual([upright for upright, parts in again], columns)


class Brings(unittest.TestCase):
    def check(self, table, order):
        """Look at what each column brings by the document's words; tell it."""
        before = copy.deepcopy((table, order))
        answer = brings(table, order)
        self.assertEqual((table, order), before)
        self.assertEqual(brings(table, order), answer)
        self.assertIsInstance(answer, tuple)
        self.assertEqual(len(answer), len(order))
        for at, number in enumerate(answer):
            self.assertTrue(is_fraction(number))
            self.assertGreaterEqual(number[0], 0)
            self.assertEqual(own(number), far_ahead(table, order, at) - far_ahead(table, order, at + 1))
        total = sum((own(number) for number in answer), own(nearest(table)[2]))
        self.assertEqual(total, sum_with(table[2], table[2]))
        return answer

    def test_by_hand(self):
        self.assertEqual(self.check(TABLE, (0, 1)), row(12, 18))
        self.assertEqual(self.check(TABLE, (1, 0)), row(0, 30))

    def test_the_first_told_is_that_of_the_first_place(self):
        table = (("a", "b", "c"), (row(1, 0, 0), row(0, 1, 0), row(0, 0, 1)), row(1, 2, 3))
        for order in itertools.permutations(range(3)):
            self.assertEqual(self.check(table, order), row(*[(k + 1) ** 2 for k in order]))

    def test_no_columns_and_no_rows(self):
        self.assertEqual(self.check(((), (), ()), ()), ())
        self.assertEqual(self.check(((), ((), ()), row(1, 2)), ()), ())
        self.assertEqual(self.check((("a", "b"), (), ()), (1, 0)), row(0, 0))

    def test_columns_nought_and_alike(self):
        table = (("a", "b", "c"), (row(0, 1, 1), row(0, 2, 2)), row(1, 3))
        self.assertEqual(self.check(table, (0, 1, 2)), row(0, "49/5", 0))
        self.assertEqual(self.check(table, (2, 1, 0)), row("49/5", 0, 0))

    def test_several_orders(self):
        chance = random.Random(4)
        for columns in range(7):
            for rows in (1, 2, 4, 10):
                table = some_table(chance, columns, rows)
                sums = set()
                for round_ in range(3):
                    order = tuple(chance.sample(range(columns), columns))
                    sums.add(sum((own(number) for number in self.check(table, order)), Fraction(0)))
                self.assertEqual(len(sums), 1)

    def test_twelve_figures(self):
        chance = random.Random(5)
        table = (tuple("abcdef"), tuple(some_row(chance, 6, 12) for k in range(10)), some_row(chance, 10, 12))
        self.check(table, (3, 0, 5, 1, 4, 2))


if __name__ == "__main__":
    unittest.main()
