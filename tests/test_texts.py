"""Promises [2], [7] and [8]: nearlaid/tables/texts.py."""

import random
import unittest
from fractions import Fraction

from nearlaid.errors import NearError, NoTable
from nearlaid.tables.texts import far_of, left_of, read_table, table_shown
from tests.support import is_fraction, is_row, own, row, some_row, some_table, sum_with, told

LONG = 999999999999


class Written(unittest.TestCase):
    def check(self, table, text):
        self.assertEqual(table_shown(table), text)
        self.assertEqual(read_table(text), table)

    def test_ordinary(self):
        table = (("a", "bc"), (row(1, "1/2"), row("-3/4", 0)), row(5, "-6/7"))
        self.check(table, "a bc =\n1 1/2 = 5\n-3/4 0 = -6/7")

    def test_no_columns(self):
        self.check(((), ((), ()), row(3, "-1/2")), "=\n= 3\n= -1/2")

    def test_no_rows(self):
        self.check((("a", "b"), (), ()), "a b =")

    def test_neither(self):
        self.check(((), (), ()), "=")

    def test_names(self):
        # A name may be the beginning of another one.
        names = ("a", "ab", "abc", "abcdefgh", "z", "zzzzzzzz")
        self.check((names, (row(1, 2, 3, 4, 5, 6),), row(7)), "a ab abc abcdefgh z zzzzzzzz =\n1 2 3 4 5 6 = 7")
        self.check((("ab", "a"), (), ()), "ab a =")

    def test_order_of_names_is_kept(self):
        self.check((("z", "a", "m"), (row(1, 2, 3),), row(4)), "z a m =\n1 2 3 = 4")

    def test_ten_rows(self):
        table = (("a",), tuple(row(k) for k in range(10)), row(*range(10, 20)))
        self.check(table, "a =\n" + "\n".join(f"{k} = {k + 10}" for k in range(10)))

    def test_long_numbers(self):
        table = (("a",), (((LONG, LONG - 1),),), ((-LONG, 1000000000000),))
        self.check(table, "a =\n999999999999/999999999998 = -999999999999/1000000000000")
        self.check((("a",), (((10 ** 5000, 1),),), ((1, 3),)), "a =\n1" + "0" * 5000 + " = 1/3")

    def test_read_not_in_least_numbers(self):
        table = read_table("a b =\n2/4 7/1 = -6/4\n0/5 4/2 = 0/1")
        self.assertEqual(table, (("a", "b"), (row("1/2", 7), row(0, 2)), row("-3/2", 0)))
        self.assertEqual(table_shown(table), "a b =\n1/2 7 = -3/2\n0 2 = 0")

    def test_kinds(self):
        names, rows, wish = read_table("a b =\n1 2/4 = 3\n4 5 = 6")
        self.assertIsInstance(names, tuple)
        self.assertIsInstance(rows, tuple)
        self.assertTrue(all(is_row(line, 2) for line in rows))
        self.assertTrue(is_row(wish, 2))
        self.assertIsInstance(read_table("=\n= 1"), tuple)
        self.assertIsInstance(table_shown(((), (), ())), str)

    def test_there_and_back(self):
        chance = random.Random(1)
        for columns in range(7):
            for rows in range(11):
                table = some_table(chance, columns, rows, 12)
                self.assertEqual(read_table(table_shown(table)), table)


class Refused(unittest.TestCase):
    def check(self, text, at):
        with self.subTest(text=text):
            with self.assertRaises(NoTable) as caught:
                read_table(text)
            self.assertEqual(caught.exception.row, at)
            self.assertIs(type(caught.exception.row), int)
            self.assertIsInstance(caught.exception, NearError)

    def test_empty_text(self):
        self.check("", 0)

    def test_names_that_are_none(self):
        for head in (
            "A =", "a B =", "aB =", "1 =", "a1 =", "a_b =", "abcdefghi =", "a abcdefghi =", "- =", "a, =", "~ =",
            "a-b =", "= =", "a = =", "= a =", "1/2 =", "\u00e4 =", "a\u00df =",
        ):
            self.check(head, 0)
            self.check(head + "\n1 = 2", 0)

    def test_names_twice(self):
        for head in ("a a =", "a b a =", "ab c ab =", "b a c d e e ="):
            self.check(head, 0)

    def test_blanks_in_the_head(self):
        for head in (" =", "= ", "a  =", " a =", "a = ", "a  b =", " ", "  ", "a b  =", "\t=", "a\t="):
            self.check(head, 0)

    def test_sign_of_the_head(self):
        for head in ("a", "a b", "a= b", "=a", "a=", "a b=", "= a", "a = b", "a ==", "==", "a - ", "a /"):
            self.check(head, 0)

    def test_empty_lines(self):
        self.check("\n", 0)
        self.check("\n=", 0)
        self.check("=\n", 1)
        self.check("a =\n", 1)
        self.check("a =\n1 = 2\n", 2)
        self.check("a =\n\n1 = 2", 1)
        self.check("a =\n1 = 2\n\n3 = 4", 2)
        self.check("a =\n1 = 2\n\n", 2)
        self.check("=\n= 1\n= 2\n", 3)

    def test_blanks_in_a_row(self):
        for line in (
            " 1 2 = 3", "1 2 = 3 ", "1  2 = 3", "1 2  = 3", "1 2 =  3", " ", "1 2 = ", " 2 = 3", "1 2 = 3  ",
            "1\t2 = 3", "1 2 =\t3",
        ):
            self.check("a b =\n" + line, 1)
            self.check("a b =\n1 2 = 3\n" + line, 2)
        for line in (" = 3", "= 3 ", "=  3", " ", "= "):
            self.check("=\n" + line, 1)

    def test_sign_of_a_row(self):
        for line in (
            "1 2 3", "1 2 3 4", "1 = 2 3", "= 1 2 3", "1 2 3 =", "1 2 = = 3", "1 2 == 3", "1 = 2 = 3", "1 2= 3",
            "1 2 =3", "1 2=3", "= 1 2 = 3", "1 2 = 3 =", "= = = =", "1 2 - 3",
        ):
            self.check("a b =\n" + line, 1)
        for line in ("1", "=", "1 =", "= =", "= 1 =", "=1", "- 1"):
            self.check("=\n" + line, 1)

    def test_too_few_and_too_many(self):
        for line in ("1 = 3", "= 3", "1 2 3 = 4", "1 2 = 3 4", "1 2 =", "1 2 3 4 = 5", "1"):
            self.check("a b =\n" + line, 1)
        for line in ("1 = 2", "= 1 2", "="):
            self.check("=\n" + line, 1)

    def test_no_fractions(self):
        for word in ("01", "-0", "1/0", "0/0", "1/", "/2", "+1", "a", "1.5", "--1", "1/-2", "1/2/3", "1/02", "-", "0x1"):
            self.check("a b =\n" + word + " 2 = 3", 1)
            self.check("a b =\n1 " + word + " = 3", 1)
            self.check("a b =\n1 2 = " + word, 1)
            self.check("a b =\n1 2 = 3\n4 5 = 6\n7 8 = " + word, 3)

    def test_the_first_of_several(self):
        self.check("a a =\n1 = 2\nx", 0)
        self.check("A =\n", 0)
        self.check("a =\n1 = 2\n1 = x\n1\n", 2)
        self.check("a =\n1 2 = 3\n1 = x", 1)
        self.check("a =\nx = 3\n1 2 = 3", 1)
        self.check("a =\n0 = 1\n1 = 1/0\n\n", 2)

    def test_other_line_ends(self):
        self.check("a =\r\n1 = 2", 0)
        self.check("a =\n1 = 2\r3 = 4", 1)


class Left(unittest.TestCase):
    def test_by_hand(self):
        table = (("a", "b"), (row(1, 2), row("1/2", 0), row(0, 0)), row(5, 1, "-1/3"))
        self.assertEqual(left_of(table, row(1, 1)), row(2, "1/2", "-1/3"))
        self.assertEqual(far_of(table, row(1, 1)), told(Fraction(4) + Fraction(1, 4) + Fraction(1, 9)))
        self.assertEqual(left_of(table, row(0, 0)), row(5, 1, "-1/3"))
        self.assertEqual(left_of(table, row(2, "3/2")), row(0, 0, "-1/3"))
        self.assertEqual(far_of(table, row(2, "3/2")), (1, 9))

    def test_no_columns(self):
        table = ((), ((), (), ()), row(1, "-1/2", 0))
        self.assertEqual(left_of(table, ()), row(1, "-1/2", 0))
        self.assertEqual(far_of(table, ()), (5, 4))

    def test_no_rows(self):
        table = (("a", "b"), (), ())
        self.assertEqual(left_of(table, row(3, "1/2")), ())
        self.assertEqual(far_of(table, row(3, "1/2")), (0, 1))
        self.assertEqual(left_of(((), (), ()), ()), ())
        self.assertEqual(far_of(((), (), ()), ()), (0, 1))

    def test_of_all_sizes(self):
        chance = random.Random(2)
        for columns in range(7):
            for rows in range(11):
                for figures in (1, 12, 60):
                    table = some_table(chance, columns, rows, min(figures, 12))
                    weights = some_row(chance, columns, figures)
                    expected = [own(w) - sum_with(line, weights) for line, w in zip(table[1], table[2])]
                    self.assertEqual(left_of(table, weights), tuple(told(x) for x in expected))
                    far = far_of(table, weights)
                    self.assertTrue(is_fraction(far))
                    self.assertEqual(own(far), sum((x * x for x in expected), Fraction(0)))

    def test_the_same_again(self):
        table = (("a", "b"), (row(1, 2), row("1/2", 0)), row(5, 1))
        self.assertEqual(left_of(table, row(1, 1)), left_of(table, row(1, 1)))
        self.assertEqual(read_table("a =\n1 = 2"), read_table("a =\n1 = 2"))
        self.assertEqual(table, (("a", "b"), (row(1, 2), row("1/2", 0)), row(5, 1)))


if __name__ == "__main__":
    unittest.main()
