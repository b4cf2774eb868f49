"""Promises [2], [3] and [29]: nearlaid/tables/sums.py."""

import copy
import random
import unittest
from fractions import Fraction

from nearlaid.errors import NearError, NoSums
from nearlaid.tables.nearest import nearest
from nearlaid.tables.sums import by_sums, sums_joined, sums_of, sums_parted, table_of
from tests.support import is_fraction, is_row, mixed, own, row, some_row, some_table, sum_with, told, turned

MEAN = (("a",), (row(1), row(1), row(1)), row(1, 2, 9))
NO_SUMS = {
    "turned": ((row(1, 2), row(1, 9)), row(0, 0), (9, 1)),
    "square of a column": ((row(-1),), row(0), (9, 1)),
    "square of the wish": ((row(1),), row(0), (-1, 9)),
    "square of the wish, without columns": ((), (), (-1, 1)),
    "a product of a column that is nought": ((row(0, 1), row(1, 5)), row(0, 0), (9, 1)),
    "a pull of a column that is nought": ((row(0),), row(1), (9, 1)),
    "two columns": ((row(1, 2), row(2, 3)), row(0, 0), (9, 1)),
    "a column and the wish": ((row(4),), row(6), (899, 100)),
    "all of them only": ((row(2, -1), row(-1, 2)), row(1, 1), (19, 10)),
}


def own_sums(table, counts):
    """The sums by the document's words, rows times their counts."""
    names, rows, wish = table
    columns = [*turned(rows, len(names)), wish]

    def counted(one, other):
        return told(sum((own(c) * own(x) * own(y) for c, x, y in zip(counts, one, other)), Fraction(0)))

    products = tuple(tuple(counted(one, other) for other in columns[:-1]) for one in columns[:-1])
    return (products, tuple(counted(one, wish) for one in columns[:-1]), counted(wish, wish))


class Checked(unittest.TestCase):
    def is_sums(self, sums, many):
        self.assertIsInstance(sums, tuple)
        products, pulls, square = sums
        self.assertIsInstance(products, tuple)
        self.assertEqual(len(products), many)
        self.assertTrue(all(is_row(line, many) for line in products))
        self.assertTrue(is_row(pulls, many))
        self.assertTrue(is_fraction(square))

    def check_table(self, sums):
        """A table is told that has the sums where its rows are counted."""
        before = copy.deepcopy(sums)
        answer = table_of(sums)
        self.assertEqual(sums, before)
        self.assertEqual(table_of(sums), answer)
        self.assertIsInstance(answer, tuple)
        counts, table = answer
        names, rows, wish = table
        self.assertEqual(names, tuple("abcdef"[:len(sums[1])]))
        self.assertLessEqual(len(rows), len(names) + 1)
        self.assertIsInstance(rows, tuple)
        self.assertTrue(all(is_row(line, len(names)) for line in rows))
        self.assertTrue(is_row(wish, len(rows)))
        self.assertTrue(is_row(counts, len(rows)))
        self.assertTrue(all(count[0] >= 0 for count in counts))
        self.assertEqual(own_sums(table, counts), sums)
        return answer

    def check(self, table):
        """The table's sums tell what the table does; tell them."""
        before = copy.deepcopy(table)
        sums = sums_of(table)
        self.assertEqual(table, before)
        self.is_sums(sums, len(table[0]))
        self.assertEqual(sums, own_sums(table, row(*[1] * len(table[1]))))
        weights, left, far = nearest(table)
        self.assertEqual(by_sums(sums), (weights, far))
        self.assertEqual(by_sums(sums), (weights, far))
        self.check_table(sums)
        return sums


class Told(Checked):
    def test_by_hand(self):
        self.assertEqual(self.check(MEAN), ((row(3),), row(12), (86, 1)))
        table = (("a", "b"), (row(1, 0), row(1, 1), row(1, 2)), row(6, 0, 0))
        self.assertEqual(self.check(table), ((row(3, 3), row(3, 5)), row(6, 0), (36, 1)))
        self.assertEqual(by_sums(sums_of(table)), (row(5, -3), (6, 1)))

    def test_no_columns_and_no_rows(self):
        self.assertEqual(self.check(((), (), ())), ((), (), (0, 1)))
        self.assertEqual(self.check(((), ((), ()), row(3, 4))), ((), (), (25, 1)))
        self.assertEqual(self.check((("a", "b"), (), ())), ((row(0, 0), row(0, 0)), row(0, 0), (0, 1)))
        self.assertEqual(table_of(((), (), (0, 1))), ((), ((), (), ())))

    def test_columns_nought_alike_and_sums(self):
        table = (("a", "b"), (row(0, 1), row(0, 2)), row(1, 3))
        self.assertEqual(by_sums(self.check(table)), (row(0, "7/5"), (1, 5)))
        table = (("a", "b"), (row(1, 1), row(2, 2)), row(5, 5))
        self.assertEqual(by_sums(self.check(table)), (row("3/2", "3/2"), (5, 1)))
        table = (("a", "b", "c"), (row(1, 0, 1), row(0, 1, 1), row(0, 0, 0)), row(3, 0, 7))
        self.assertEqual(by_sums(self.check(table)), (row(2, -1, 1), (49, 1)))

    def test_of_all_sizes(self):
        chance = random.Random(1)
        for columns in range(7):
            for rows in (0, 1, 2, 4, 7, 10):
                self.check(some_table(chance, columns, rows))

    def test_twelve_figures(self):
        self.check(some_table(random.Random(2), 6, 10, 12))

    def test_sums_of_any_fractions(self):
        chance = random.Random(3)
        for round_ in range(30):
            columns, rows = chance.randrange(5), chance.randrange(6)
            table = some_table(chance, columns, rows)
            counts = tuple((abs(above), below) for above, below in some_row(chance, rows, 5))
            sums = own_sums(table, counts)
            counts, table = self.check_table(sums)
            weights, far = by_sums(sums)
            for line, pull in zip(sums[0], sums[1]):
                self.assertEqual(sum_with(line, weights), own(pull))
            self.assertEqual(own(far), own(sums[2]) - sum_with(sums[1], weights))
            # Told things may be handed on: the table's rows and counts are its sums again.
            self.assertEqual(own_sums(table, counts), sums)

    def test_far_0_just_reached(self):
        self.assertEqual(by_sums(((row(4),), row(6), (9, 1))), (row("3/2"), (0, 1)))
        self.assertEqual(by_sums(((row(2, -1), row(-1, 2)), row(1, 1), (2, 1))), (row(1, 1), (0, 1)))
        self.check_table(((row(4),), row(6), (9, 1)))
        self.check_table(((row(2, -1), row(-1, 2)), row(1, 1), (2, 1)))


class Joined(Checked):
    def test_joined_and_parted(self):
        chance = random.Random(4)
        for round_ in range(60):
            columns = chance.randrange(7)
            one = some_table(chance, columns, chance.randrange(6))
            other = some_table(chance, columns, chance.randrange(5))
            both = (one[0], one[1] + other[1], one[2] + other[2])
            before = copy.deepcopy((sums_of(one), sums_of(other)))
            joined = sums_joined(*before)
            self.is_sums(joined, columns)
            self.assertEqual(joined, sums_of(both))
            self.assertEqual(sums_joined(before[1], before[0]), joined)
            self.assertEqual(sums_parted(joined, before[1]), before[0])
            self.assertEqual(sums_parted(joined, before[0]), before[1])
            self.assertEqual(before, (sums_of(one), sums_of(other)))

    def test_with_noughts(self):
        sums = sums_of(MEAN)
        none = sums_of((("a",), (), ()))
        self.assertEqual(sums_joined(sums, none), sums)
        self.assertEqual(sums_parted(sums, none), sums)
        self.assertEqual(sums_parted(sums, sums), none)
        self.assertEqual(sums_joined(((), (), (1, 2)), ((), (), (1, 3))), ((), (), (5, 6)))

    def test_parted_what_no_row_was(self):
        # What comes is a table's, though the rows taken off were none of the one's.
        sums = ((row(5, 0), row(0, 5)), row(0, 0), (9, 1))
        taken = sums_of((("a", "b"), (row(1, 2),), row(0)))
        self.assertEqual(sums_parted(sums, taken), ((row(4, -2), row(-2, 1)), row(0, 0), (9, 1)))


class Refused(Checked):
    def refused(self, call, *handed):
        before = copy.deepcopy(handed)
        with self.assertRaises(NoSums) as caught:
            call(*handed)
        self.assertIsInstance(caught.exception, NearError)
        self.assertEqual(handed, before)

    def test_what_is_no_table_s(self):
        for name, sums in NO_SUMS.items():
            with self.subTest(name):
                self.refused(by_sums, sums)
                self.refused(table_of, sums)

    def test_one_of_two(self):
        for name, sums in NO_SUMS.items():
            with self.subTest(name):
                many = len(sums[1])
                fine = (tuple(row(*[99 if k == at else 0 for k in range(many)]) for at in range(many)),
                        row(*[0] * many), (99, 1))
                for call in (sums_joined, sums_parted):
                    # Joined, what comes would be a table's; still the one handed in is none.
                    self.refused(call, sums, fine)
                    self.refused(call, fine, sums)
                    self.refused(call, sums, sums)

    def test_parted_to_a_table_s_sums(self):
        # What would come is a table's, but what is taken off is none, or what it is taken off.
        none = ((row(0),), row(0), (0, 1))
        for bad in (((row(-1),), row(0), (0, 1)), ((row(0),), row(0), (-1, 1)), ((row(0),), row(1), (1, 1))):
            self.refused(sums_parted, bad, bad)
            self.refused(sums_parted, none, bad)

    def test_parted_by_more(self):
        sums = sums_of(MEAN)
        self.refused(sums_parted, sums, sums_joined(sums, sums))
        for more in (((row(4),), row(12), (86, 1)), ((row(3),), row(12), (87, 1)), ((row(3),), row(0), (0, 1))):
            self.refused(sums_parted, sums, more)
        self.assertEqual(sums_parted(sums, ((row(0),), row(0), (38, 1))), ((row(3),), row(12), (48, 1)))
        self.refused(sums_parted, sums, ((row(0),), row(0), (381, 10)))
        self.refused(sums_parted, sums, sums_of((("a",), (row(1),), row(20))))

    def test_by_eigen_ways(self):
        """Sums are refused just where some weights and a number for the wish come below 0."""
        chance = random.Random(5)
        told_truths = {True: 0, False: 0}
        for round_ in range(300):
            many = chance.randint(1, 3)
            lines = [[chance.randint(-2, 2) for k in range(many + 1)] for at in range(many + 1)]
            full = [[lines[max(k, at)][min(k, at)] + (3 if k == at else 0) for k in range(many + 1)]
                    for at in range(many + 1)]
            sums = (tuple(row(*line[:-1]) for line in full[:-1]), row(*full[-1][:-1]), row(full[-1][-1])[0])
            below = any(self.square(full, ways) < 0 for ways in self.ways(many + 1))
            try:
                self.check_table(sums)
                told_truths[True] += 1
                self.assertFalse(below)
            except NoSums:
                told_truths[False] += 1
                self.assertTrue(self.minor_below(full))
        self.assertGreater(min(told_truths.values()), 30)

    def ways(self, many):
        """Small whole weights, the wish's number with them."""
        found = [()]
        for k in range(many):
            found = [(*way, x) for way in found for x in (-1, 0, 1)]
        return found

    def square(self, full, way):
        return sum(x * y * full[k][at] for k, x in enumerate(way) for at, y in enumerate(way))

    def minor_below(self, full):
        """Whether some columns have a determinant below 0: just then a square comes below 0."""
        for places in self.ways(len(full)):
            kept = [k for k, x in enumerate(places) if x == 1]
            if self.determinant([[full[k][at] for at in kept] for k in kept]) < 0:
                return True
        return False

    def determinant(self, lines):
        if not lines:
            return 1
        return sum((-1) ** k * lines[0][k] * self.determinant([line[:k] + line[k + 1:] for line in lines[1:]])
                   for k in range(len(lines)))


class HandedOn(Checked):
    def test_more_columns_than_promised(self):
        chance = random.Random(6)
        table = (tuple("abcdefgh"), tuple(some_row(chance, 8) for k in range(9)), some_row(chance, 9))
        counts, made = table_of(sums_of(table))
        self.assertEqual(own_sums(made, counts), sums_of(table))

    def test_rows_mixed(self):
        """Rows turned about have the same sums, as three and four fifths are upright."""
        table = (("a", "b"), (row(1, 2), row(5, -1)), row(3, 4))
        turned_rows = tuple(mixed(table[1], numbers, 2) for numbers in (row("3/5", "4/5"), row("-4/5", "3/5")))
        wish = row("25/5", 0)
        self.assertEqual(sums_of((table[0], turned_rows, wish)), sums_of(table))


if __name__ == "__main__":
    unittest.main()
