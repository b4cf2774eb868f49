"""Promises [2], [3], [26], [27] and [28]: nearlaid/tables/counted.py."""

import copy
import random
import unittest
from fractions import Fraction

from nearlaid.errors import NearError, NoRow
from nearlaid.kept import Kept
from nearlaid.tables.counted import nearest_counted, rest_at, rest_of, several_wishes
from nearlaid.tables.nearest import nearest
from tests.support import (
    free_places, is_fraction, is_row, own, own_left, row, some_row, some_table, sum_with, told, turned,
)

MEAN = (("a",), (row(1), row(1), row(1)), row(1, 2, 9))


def some_counts(chance, many):
    """Counts, none below 0, among them 0 and 1."""
    numbers = [chance.choice((Fraction(0), Fraction(1), Fraction(chance.randint(0, 9), chance.randint(1, 9))))
               for k in range(many)]
    return tuple(told(number) for number in numbers)


def times_told(table, counts):
    """The table with each row told as often as its whole count."""
    names, rows, wish = table
    places = [at for at, (count, below) in enumerate(counts) for k in range(count)]
    return (names, tuple(rows[at] for at in places), tuple(wish[at] for at in places))


class Counted(unittest.TestCase):
    def check(self, table, counts):
        """Look at what is told by the document's words; tell it."""
        before = copy.deepcopy((table, counts))
        answer = nearest_counted(table, counts)
        self.assertEqual((table, counts), before)
        self.assertEqual(nearest_counted(table, counts), answer)
        self.assertIsInstance(answer, tuple)
        weights, left, far = answer
        self.assertTrue(is_row(weights, len(table[0])))
        self.assertTrue(is_row(left, len(table[1])))
        self.assertTrue(is_fraction(far))
        self.assertEqual(left, own_left(table, weights))
        self.assertEqual(own(far), sum(own(c) * own(x) ** 2 for c, x in zip(counts, left)))
        counted = tuple(told(own(c) * own(x)) for c, x in zip(counts, left))
        for column in turned(table[1], len(table[0])):
            self.assertEqual(sum_with(column, counted), 0)
        self.check_shortest(table, counts, weights)
        return answer

    def check_shortest(self, table, counts, weights):
        """The weights are upright to all that change no sum of a row that is counted: tried at each free place."""
        rows = [line for line, count in zip(table[1], counts) if count[0] != 0]
        many = len(table[0])
        for place in free_places(rows, many):
            one = nearest((table[0][:place], tuple(line[:place] for line in rows), tuple(line[place] for line in rows)))
            self.assertEqual(one[2], (0, 1))
            way = tuple(one[0]) + ((-1, 1),) + ((0, 1),) * (many - place - 1)
            self.assertEqual(sum_with(way, weights), 0)

    def test_counts_of_one(self):
        chance = random.Random(1)
        for columns, rows in ((0, 0), (0, 3), (2, 0), (1, 2), (3, 5), (6, 10), (6, 2)):
            table = some_table(chance, columns, rows)
            self.assertEqual(self.check(table, row(*[1] * rows)), nearest(table))
            weights, left, far = self.check(table, row(*["2/3"] * rows))
            self.assertEqual((weights, left), nearest(table)[:2])
            self.assertEqual(own(far), own(nearest(table)[2]) * Fraction(2, 3))

    def test_by_hand(self):
        self.assertEqual(self.check(MEAN, row(1, 1, 0)), (row("3/2"), row("-1/2", "1/2", "15/2"), (1, 2)))
        self.assertEqual(self.check(MEAN, row(1, 0, "1/3")), (row(3), row(-2, -1, 6), (16, 1)))
        self.assertEqual(self.check(MEAN, row(0, 5, 0)), (row(2), row(-1, 0, 7), (0, 1)))

    def test_all_0(self):
        self.assertEqual(self.check(MEAN, row(0, 0, 0)), (row(0), row(1, 2, 9), (0, 1)))
        chance = random.Random(2)
        table = some_table(chance, 4, 6)
        self.assertEqual(self.check(table, row(*[0] * 6)), (row(0, 0, 0, 0), table[2], (0, 1)))

    def test_shortest(self):
        table = (("a", "b"), (row(1, 1), row(1, 0)), row(4, 9))
        self.assertEqual(self.check(table, row(3, 0)), (row(2, 2), row(0, 7), (0, 1)))
        self.assertEqual(self.check(table, row(3, "1/9"))[0], row(9, -5))

    def test_no_columns_and_no_rows(self):
        self.assertEqual(self.check(((), (), ()), ()), ((), (), (0, 1)))
        self.assertEqual(self.check(((), ((), ()), row(2, 3)), row("1/2", 0)), ((), row(2, 3), (2, 1)))
        self.assertEqual(self.check((("a", "b"), (), ()), ()), (row(0, 0), (), (0, 1)))

    def test_whole_counts_as_the_row_told_so_often(self):
        chance = random.Random(3)
        for round_ in range(60):
            table = some_table(chance, chance.randrange(5), chance.randrange(6))
            counts = row(*[chance.randrange(4) for k in table[1]])
            weights, left, far = self.check(table, counts)
            often = nearest(times_told(table, counts))
            self.assertEqual((weights, far), (often[0], often[2]))

    def test_of_all_sizes(self):
        chance = random.Random(4)
        for columns in range(7):
            for rows in (0, 1, 2, 4, 7, 10):
                table = some_table(chance, columns, rows)
                self.check(table, some_counts(chance, rows))

    def test_twelve_figures(self):
        chance = random.Random(5)
        table = some_table(chance, 6, 10, 12)
        counts = tuple((abs(above), below) for above, below in some_row(chance, 10, 12))
        self.check(table, counts)

    def test_told_things_handed_on(self):
        chance = random.Random(6)
        table = some_table(chance, 3, 5, 2)
        weights, left, far = nearest(table)
        self.check((table[0], table[1], left), tuple((abs(above), below) for above, below in left))


class Rests(unittest.TestCase):
    def check(self, table, ws=("0", "1/3", "1", "5/2", "1000000")):
        """Look at rest and share of each row, and at what is left where it is counted w times."""
        names, rows, wish = table
        kept = Kept(names)
        for line, wished in zip(rows, wish):
            kept.put_row(line, wished)
        for at in range(len(rows)):
            answer = rest_of(table, at)
            self.assertEqual(rest_of(table, at), answer)
            self.assertIsInstance(answer, tuple)
            rest, share = answer
            self.assertEqual(rest, nearest(table)[1][at])
            self.assertEqual(share, kept.share(at))
            self.assertTrue(0 <= own(share) <= 1)
            for w in ws:
                if own(share) == 1 and Fraction(w) == 0:
                    continue
                left = rest_at(table, at, row(w)[0])
                self.assertTrue(is_row(left, len(rows)))
                self.assertEqual(own(left[at]), own(rest) / (1 + (Fraction(w) - 1) * own(share)))
                counts = row(*[w if k == at else 1 for k in range(len(rows))])
                self.assertEqual(left, nearest_counted(table, counts)[1])

    def test_by_hand(self):
        self.assertEqual(rest_of(MEAN, 2), ((5, 1), (1, 3)))
        self.assertEqual(rest_at(MEAN, 2, (0, 1)), row("-1/2", "1/2", "15/2"))
        self.assertEqual(rest_at(MEAN, 2, (1, 1)), row(-3, -2, 5))
        self.assertEqual(rest_at(MEAN, 2, (4, 1)), row("-11/2", "-9/2", "5/2"))
        self.check(MEAN)

    def test_shares_of_0_and_1(self):
        table = (("a",), (row(1), row(0)), row(5, 7))
        self.assertEqual(rest_of(table, 0), ((0, 1), (1, 1)))
        self.assertEqual(rest_of(table, 1), ((7, 1), (0, 1)))
        for w in row(0, "1/9", 1, 99):
            self.assertEqual(rest_at(table, 1, w), row(0, 7))
        for w in row("1/9", 1, 99):
            self.assertEqual(rest_at(table, 0, w), row(0, 7))
        self.assertTrue(is_row(rest_at(table, 0, (0, 1)), 2))
        self.check(table)

    def test_without_columns(self):
        table = ((), ((), ()), row(2, 3))
        self.assertEqual(rest_of(table, 0), ((2, 1), (0, 1)))
        self.assertEqual(rest_at(table, 1, (0, 1)), row(2, 3))
        self.check(table)

    def test_of_all_sizes(self):
        chance = random.Random(7)
        for columns in range(7):
            for rows in (1, 2, 4, 7, 10):
                self.check(some_table(chance, columns, rows), ("0", "2/7", "30"))

    def test_twelve_figures(self):
        chance = random.Random(8)
        table = some_table(chance, 3, 4, 12)
        self.check(table, ("0", "999999999999/7", "1/999999999999"))

    def test_refused(self):
        for table, places in ((MEAN, (3, 4, -1, -3, 10 ** 30)), ((("a",), (), ()), (0, -1)), (((), (), ()), (0,))):
            for place in places:
                for call in (lambda: rest_of(table, place), lambda: rest_at(table, place, (1, 1))):
                    with self.assertRaises(NoRow) as caught:
                        call()
                    self.assertIsInstance(caught.exception, NearError)


class Wishes(unittest.TestCase):
    def check(self, table, wishes):
        before = copy.deepcopy((table, wishes))
        answer = several_wishes(table, wishes)
        self.assertEqual((table, wishes), before)
        self.assertEqual(several_wishes(table, wishes), answer)
        self.assertIsInstance(answer, tuple)
        self.assertEqual(answer, tuple(nearest((table[0], table[1], wish)) for wish in (table[2], *wishes)))
        return answer

    def test_no_further_wish(self):
        self.assertEqual(self.check(MEAN, ()), (nearest(MEAN),))
        self.assertEqual(self.check(((), (), ()), ()), (((), (), (0, 1)),))

    def test_several(self):
        answer = self.check(MEAN, (row(0, 0, 0), row(1, 2, 9), row(3, 0, 0)))
        self.assertEqual(answer[1], (row(0), row(0, 0, 0), (0, 1)))
        self.assertEqual(answer[2], answer[0])
        self.assertEqual(answer[3], (row(1), row(2, -1, -1), (6, 1)))
        self.assertEqual(self.check(((), (), ()), ((), ())), (((), (), (0, 1)),) * 3)
        self.assertEqual(self.check((("a",), (), ()), ((),)), ((row(0), (), (0, 1)),) * 2)

    def test_sums_of_wishes(self):
        chance = random.Random(9)
        for round_ in range(40):
            columns, rows = chance.randrange(7), chance.randrange(11)
            table, other = some_table(chance, columns, rows), some_row(chance, rows)
            both = tuple(told(own(x) + own(y)) for x, y in zip(table[2], other))
            one, two, three = self.check(table, (other, both))
            for part in range(2):
                added = tuple(told(own(x) + own(y)) for x, y in zip(one[part], two[part]))
                self.assertEqual(three[part], added)


if __name__ == "__main__":
    unittest.main()
