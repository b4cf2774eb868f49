"""Promises [2] and [6]: nearlaid/numbers/systems.py."""

import copy
import random
import unittest
from fractions import Fraction

from nearlaid.numbers.systems import solved
from tests.support import free_places, is_row, own, row, some_fraction, sum_with, system, told


class Checked(unittest.TestCase):
    def check(self, asked, many):
        """Look at what is told in all parts; tell how it begins."""
        before = copy.deepcopy(asked)
        answer = solved(asked, many)
        self.assertEqual(asked, before)
        self.assertEqual(solved(asked, many), answer)
        self.assertIsInstance(answer, tuple)
        if answer[0] == "none":
            self.check_none(asked, many, answer)
        else:
            self.check_solved(asked, many, answer)
        return answer[0]

    def check_none(self, asked, many, answer):
        word, paper = answer
        self.assertTrue(is_row(paper, len(asked)))
        for k in range(many):
            self.assertEqual(sum_with(paper, [line[k] for line, number in asked]), 0)
        self.assertEqual(sum_with(paper, [number for line, number in asked]), 1)

    def check_solved(self, asked, many, answer):
        word, one, free = answer
        self.assertEqual(word, "solved")
        self.assertTrue(is_row(one, many))
        self.assertIsInstance(free, tuple)
        places = free_places([line for line, number in asked], many)
        self.assertEqual(len(free), len(places))
        for line, number in asked:
            self.assertEqual(sum_with(line, one), own(number))
        for place in places:
            self.assertEqual(one[place], (0, 1))
        for place, way in zip(places, free):
            self.assertTrue(is_row(way, many))
            for line, number in asked:
                self.assertEqual(sum_with(line, way), 0)
            for other in places:
                self.assertEqual(way[other], (1, 1) if other == place else (0, 1))


class ByHand(Checked):
    def test_without_rows(self):
        self.assertEqual(solved((), 0), ("solved", (), ()))
        self.assertEqual(solved((), 1), ("solved", row(0), (row(1),)))
        self.assertEqual(solved((), 3), ("solved", row(0, 0, 0), (row(1, 0, 0), row(0, 1, 0), row(0, 0, 1))))

    def test_without_unknowns(self):
        self.assertEqual(solved(system((0,)), 0), ("solved", (), ()))
        self.assertEqual(solved(system((0,), (0,), (0,)), 0), ("solved", (), ()))
        self.assertEqual(solved(system((5,)), 0), ("none", row("1/5")))
        self.assertEqual(solved(system((0,), ("-2/3",)), 0)[0], "none")
        self.assertEqual(self.check(system((0,), ("-2/3",), (4,)), 0), "none")

    def test_one_solution(self):
        self.assertEqual(solved(system((2, 3)), 1), ("solved", row("3/2"), ()))
        self.assertEqual(solved(system((1, 1, 3), (1, -1, 1)), 2), ("solved", row(2, 1), ()))
        self.assertEqual(solved(system((0, 1, 3), (1, 0, 1)), 2), ("solved", row(1, 3), ()))
        asked = system(("1/2", "1/3", 1), ("1/4", "-1/5", "7/2"))
        self.assertEqual(solved(asked, 2), ("solved", row("82/11", "-90/11"), ()))

    def test_free_unknowns(self):
        self.assertEqual(solved(system((1, 1, 3)), 2), ("solved", row(3, 0), (row(-1, 1),)))
        self.assertEqual(solved(system((2, 1, 4, 3)), 3), ("solved", row("3/2", 0, 0), (row("-1/2", 1, 0), row(-2, 0, 1))))

    def test_a_column_of_noughts(self):
        self.assertEqual(solved(system((0, 2, 3)), 2), ("solved", row(0, "3/2"), (row(1, 0),)))
        self.assertEqual(solved(system((1, 0, 3)), 2), ("solved", row(3, 0), (row(0, 1),)))
        self.assertEqual(solved(system((0, 0, 0)), 2), ("solved", row(0, 0), (row(1, 0), row(0, 1))))

    def test_columns_that_are_sums(self):
        asked = system((1, 0, 2, 0, 5), (0, 1, 3, 1, 7))
        self.assertEqual(solved(asked, 4), ("solved", row(5, 7, 0, 0), (row(-2, -3, 1, 0), row(0, -1, 0, 1))))
        asked = system((1, 2, 0, 5), (2, 4, 1, 7))
        self.assertEqual(solved(asked, 3), ("solved", row(5, 0, -3), (row(-2, 1, 0),)))

    def test_rows_alike_and_sums(self):
        self.assertEqual(solved(system((1, 2), (1, 2), (3, 6)), 1), ("solved", row(2), ()))
        asked = system((1, 1, 3), (1, -1, 1), (2, 0, 4), (0, 0, 0), (5, 1, 11))
        self.assertEqual(solved(asked, 2), ("solved", row(2, 1), ()))

    def test_none(self):
        self.assertEqual(solved(system((0, 4)), 1), ("none", row("1/4")))
        self.assertEqual(solved(system((1, 1), (1, 3)), 1), ("none", row("-1/2", "1/2")))
        self.assertEqual(solved(system((1, 1, 3), (2, 2, 5)), 2), ("none", row(2, -1)))
        self.assertEqual(self.check(system((1, 1, 3), (1, -1, 1), (2, 0, 5)), 2), "none")
        self.assertEqual(self.check(system((1, 2, 3), (0, 0, 0), (0, 0, "1/3"), (0, 0, -1)), 2), "none")

    def test_long(self):
        most = 999999999999
        asked = (((((most, most - 1), (-1, most)), (most, 1))), ((((1 - most), most), (most, 7)), (1, most)))
        self.assertEqual(self.check(asked, 2), "solved")


class Sought(Checked):
    def some_system(self, chance, rows, many, figures):
        """Rows some of which are sums of others, columns some of which are sums or noughts."""
        columns = []
        for k in range(many + 1):
            kind = chance.randrange(5)
            if kind == 0 and k < many:
                columns.append([Fraction(0)] * rows)
            elif kind <= 2 and columns:
                one, other = chance.choice(columns), chance.choice(columns)
                by = own(some_fraction(chance))
                columns.append([x + by * y for x, y in zip(one, other)])
            else:
                columns.append([own(some_fraction(chance, figures)) for at in range(rows)])
        lines = [list(line) for line in zip(*columns)]
        for at in range(1, rows):
            if chance.randrange(3) == 0:
                one, other = lines[chance.randrange(at)], lines[chance.randrange(at)]
                by = own(some_fraction(chance))
                lines[at] = [x - by * y for x, y in zip(one, other)]
                if chance.randrange(6) == 0:
                    lines[at][-1] += 1
        return tuple((tuple(told(x) for x in line[:-1]), told(line[-1])) for line in lines)

    def test_of_all_sizes(self):
        chance = random.Random(7)
        begins = {"none": 0, "solved": 0}
        for rows in range(13):
            for many in range(13):
                for figures in (1, 1, 2):
                    begins[self.check(self.some_system(chance, rows, many, figures), many)] += 1
        self.assertGreater(min(begins.values()), 50)

    def test_many_small_ones(self):
        chance = random.Random(8)
        for round_ in range(1500):
            rows, many = chance.randrange(5), chance.randrange(5)
            lines = [tuple(chance.randint(-1, 1) for k in range(many + 1)) for at in range(rows)]
            self.check(system(*lines), many)

    def test_twelve_figures(self):
        chance = random.Random(9)
        for rows, many in ((12, 12), (11, 12), (12, 11), (6, 12), (12, 6)):
            asked = tuple(
                (tuple(some_fraction(chance, 12) for k in range(many)), some_fraction(chance, 12))
                for at in range(rows)
            )
            self.assertEqual(self.check(asked, many), "none" if rows > many else "solved")

    def test_told_is_handed_on(self):
        chance = random.Random(10)
        asked = self.some_system(chance, 5, 8, 12)
        one = solved(asked, 8)[1]
        again = tuple((line, number) for (line, old), number in zip(asked, one))
        self.check(again, 8)


class Kept(unittest.TestCase):
    def test_nothing_is_changed(self):
        # Lists stand in for rows here, to show that nothing is written to them.
        lists = [(list(line), number) for line, number in system((0, 2, 3), (1, 1, 1), (1, 3, 5))]
        before = copy.deepcopy(lists)
        first = solved(lists, 2)
        self.assertEqual(lists, before)
        lists[0][0][0] = (7, 1)
        self.assertEqual(first[0], "none")
        self.assertEqual(solved(before, 2), first)


if __name__ == "__main__":
    unittest.main()
