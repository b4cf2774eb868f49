"""Promises [2], [4] and [5]: nearlaid/numbers/fractions.py."""

import itertools
import random
import re
import unittest
from fractions import Fraction

from nearlaid.errors import NearError, NoNumber
from nearlaid.numbers.fractions import (
    compared,
    fraction,
    less,
    number_shown,
    over,
    plus,
    product,
    read_number,
    times,
)
from tests.support import is_fraction, own, row, some_fraction, told

LONG = 999999999999
NUMBERS = (
    (0, 1), (1, 1), (-1, 1), (2, 1), (-7, 1), (1, 2), (-1, 2), (3, 4), (-3, 4), (1, 6), (5, 6),
    (LONG, 1), (-LONG, 1), (1, LONG), (-1, LONG), (LONG, LONG - 1), (1 - LONG, LONG),
    (999999999989, 999999999961), (-123456789012, 987654321011),
)
# Each text with 4000 figures is put together, since Python itself stops at some length.
NINES = 10 ** 4000 - 1
ONES = NINES // 9


class Made(unittest.TestCase):
    def test_ordinary(self):
        self.assertEqual(fraction(1, 2), (1, 2))
        self.assertEqual(fraction(5, 1), (5, 1))
        self.assertEqual(fraction(6, 4), (3, 2))
        self.assertEqual(fraction(12, 4), (3, 1))
        self.assertEqual(fraction(-6, 4), (-3, 2))

    def test_nought(self):
        for below in (1, 7, -7, LONG):
            self.assertEqual(fraction(0, below), (0, 1))

    def test_below_nought_below(self):
        self.assertEqual(fraction(3, -6), (-1, 2))
        self.assertEqual(fraction(-3, -6), (1, 2))
        self.assertEqual(fraction(4, -1), (-4, 1))

    def test_all_small_ones(self):
        for above in range(-30, 31):
            for below in range(-30, 31):
                if below != 0:
                    self.assertEqual(fraction(above, below), told(Fraction(above, below)))

    def test_long(self):
        self.assertEqual(fraction(LONG * 6, LONG * 4), (3, 2))
        self.assertEqual(fraction(LONG, LONG), (1, 1))
        self.assertEqual(fraction(NINES, ONES), (9, 1))
        self.assertEqual(fraction(ONES, -NINES), (-1, 9))


class Reckoned(unittest.TestCase):
    def check(self, one, other):
        first, second = own(one), own(other)
        self.assertEqual(plus(one, other), told(first + second))
        self.assertEqual(less(one, other), told(first - second))
        self.assertEqual(times(one, other), told(first * second))
        if other != (0, 1):
            self.assertEqual(over(one, other), told(first / second))
        self.assertEqual(compared(one, other), (first > second) - (first < second))

    def test_by_hand(self):
        self.assertEqual(plus((1, 2), (1, 3)), (5, 6))
        self.assertEqual(plus((1, 6), (1, 3)), (1, 2))
        self.assertEqual(plus((1, 4), (1, 4)), (1, 2))
        self.assertEqual(plus((1, 2), (-1, 2)), (0, 1))
        self.assertEqual(less((1, 2), (1, 3)), (1, 6))
        self.assertEqual(less((1, 3), (1, 2)), (-1, 6))
        self.assertEqual(less((5, 7), (5, 7)), (0, 1))
        self.assertEqual(times((2, 3), (3, 4)), (1, 2))
        self.assertEqual(times((-2, 3), (-3, 2)), (1, 1))
        self.assertEqual(times((0, 1), (-3, 2)), (0, 1))
        self.assertEqual(over((1, 2), (3, 4)), (2, 3))
        self.assertEqual(over((1, 2), (-3, 4)), (-2, 3))
        self.assertEqual(over((0, 1), (-3, 4)), (0, 1))
        self.assertEqual(compared((1, 2), (2, 3)), -1)
        self.assertEqual(compared((-1, 2), (-2, 3)), 1)
        self.assertEqual(compared((-1, 2), (0, 1)), -1)
        self.assertEqual(compared((4, 7), (4, 7)), 0)

    def test_each_with_each(self):
        for one in NUMBERS:
            for other in NUMBERS:
                with self.subTest(one=one, other=other):
                    self.check(one, other)

    def test_some_of_twelve_figures(self):
        chance = random.Random(4)
        for round_ in range(500):
            self.check(some_fraction(chance, 12), some_fraction(chance, 12))

    def test_of_any_length(self):
        self.check((NINES, ONES - 1), (-ONES, NINES + 1))

    def test_over_nought_is_refused(self):
        for one in NUMBERS:
            with self.assertRaises(NoNumber):
                over(one, (0, 1))
        with self.assertRaises(NearError):
            over((0, 1), (0, 1))

    def test_kinds(self):
        for one in NUMBERS:
            for other in NUMBERS:
                for reckoned in (plus, less, times, over):
                    if reckoned is not over or other != (0, 1):
                        self.assertTrue(is_fraction(reckoned(one, other)))
                self.assertIs(type(compared(one, other)), int)


class Shown(unittest.TestCase):
    def test_ordinary(self):
        for one, text in (
            ((0, 1), "0"), ((1, 1), "1"), ((-1, 1), "-1"), ((10, 1), "10"), ((3, 4), "3/4"),
            ((-3, 4), "-3/4"), ((100, 7), "100/7"), ((1, 1000), "1/1000"),
            ((-LONG, 1), "-999999999999"), ((LONG, 1000000000000), "999999999999/1000000000000"),
        ):
            self.assertEqual(number_shown(one), text)
            self.assertEqual(read_number(text), one)

    def test_every_length(self):
        # Noughts inside and at the end would be lost where a long number is badly put together.
        for figures in list(range(1, 200)) + [639, 640, 641, 1000, 4000]:
            self.assertEqual(number_shown((10 ** figures, 1)), "1" + "0" * figures)
            self.assertEqual(number_shown((-(10 ** figures) - 1, 1)), "-1" + "0" * (figures - 1) + "1")
            self.assertEqual(number_shown((10 ** figures - 1, 1)), "9" * figures)

    def test_four_thousand_figures(self):
        nines, ones = "9" * 4000, "1" * 4000
        self.assertEqual(number_shown((NINES, 1)), nines)
        self.assertEqual(number_shown((-NINES, NINES - 1)), "-" + nines + "/" + "9" * 3999 + "8")
        self.assertEqual(number_shown((ONES, NINES + 1)), ones + "/1" + "0" * 4000)

    def test_somewhat_longer(self):
        many = 10 ** 9000 - 1
        self.assertEqual(number_shown((many, many + 1)), "9" * 9000 + "/1" + "0" * 9000)
        self.assertEqual(read_number("-1/" + "9" * 9000), (-1, many))


class Read(unittest.TestCase):
    def test_whole(self):
        for text, one in (
            ("0", (0, 1)), ("7", (7, 1)), ("-7", (-7, 1)), ("10", (10, 1)), ("-100", (-100, 1)),
            ("999999999999", (LONG, 1)), ("-999999999999", (-LONG, 1)),
        ):
            self.assertEqual(read_number(text), one)
            self.assertTrue(is_fraction(read_number(text)))

    def test_fractions(self):
        for text, one in (
            ("1/2", (1, 2)), ("-1/2", (-1, 2)), ("10/3", (10, 3)),
            ("999999999999/1000000000000", (LONG, LONG + 1)),
        ):
            self.assertEqual(read_number(text), one)

    def test_not_in_least_numbers(self):
        for text, one in (
            ("2/4", (1, 2)), ("-6/4", (-3, 2)), ("4/2", (2, 1)), ("0/5", (0, 1)), ("0/1", (0, 1)),
            ("7/1", (7, 1)), ("-7/1", (-7, 1)), ("5/5", (1, 1)),
        ):
            self.assertEqual(read_number(text), one)
            self.assertTrue(is_fraction(read_number(text)))

    def test_four_thousand_figures(self):
        nines, ones = "9" * 4000, "1" * 4000
        self.assertEqual(read_number(nines), (NINES, 1))
        self.assertEqual(read_number("-" + nines), (-NINES, 1))
        self.assertEqual(read_number(nines + "/" + ones), (9, 1))
        self.assertEqual(read_number("-" + ones + "/" + nines), (-1, 9))
        self.assertEqual(read_number("-" + ones + "/1" + "0" * 3999), (-ONES, 10 ** 3999))

    def test_every_length(self):
        for figures in range(1, 200):
            self.assertEqual(read_number("1" + "0" * figures), (10 ** figures, 1))
            self.assertEqual(read_number("1/" + "9" * figures), (1, 10 ** figures - 1))

    def test_refused(self):
        for text in (
            "", "-", "/", "-/", "1/", "/1", "-/1", "1/-",
            "-0", "-0/1", "-0/5", "00", "01", "-01", "007", "01/2", "1/02", "0/01", "00/1", "1/00",
            "--1", "+1", "+-1", "-+1", "1-", "1/-2", "-1/-2", "1/+2", "- 1",
            " ", " 1", "1 ", "1 2", "1 /2", "1/ 2", "1/2 ", " 1/2", "\n", "1\n", "\n1", "1\n/2", "1/2\n",
            "1/2/3", "1//2", "1/2/", "/1/2",
            "1/0", "0/0", "-1/0", "a", "1a", "a1", "1/a", "x/2", "1.5", "1,5", "1_000", "1e3", "0x10",
            "1:2", "1\\2", "~", "()", "None",
            "\u0663", "\u00b2", "1/\u0664", "\uff11",
            "0" + "1" * 3999, "1" * 3999 + "x", "1/" + "0" * 4000,
        ):
            with self.subTest(text=text[:20]):
                with self.assertRaises(NoNumber):
                    read_number(text)

    def test_each_short_text(self):
        """Of all texts of few signs just those are read that the document tells."""
        form = re.compile(r"(0|-?[1-9][0-9]*)(/[1-9][0-9]*)?")
        for many in range(6):
            for signs in itertools.product("017/- ", repeat=many):
                text = "".join(signs)
                if form.fullmatch(text):
                    self.assertEqual(read_number(text), told(Fraction(text)))
                else:
                    with self.assertRaises(NoNumber):
                        read_number(text)

    def test_there_and_back(self):
        chance = random.Random(5)
        for one in NUMBERS + tuple(some_fraction(chance, 12) for k in range(300)):
            self.assertEqual(read_number(number_shown(one)), one)


class Product(unittest.TestCase):
    def test_ordinary(self):
        self.assertEqual(product(row(1, 2, 3), row(4, 5, 6)), (32, 1))
        self.assertEqual(product(row("1/2", "1/3"), row("1/3", "1/2")), (1, 3))
        self.assertEqual(product(row("1/2", "-1/3"), row(1, "3/2")), (0, 1))

    def test_no_places(self):
        self.assertEqual(product((), ()), (0, 1))

    def test_one_place(self):
        self.assertEqual(product(row("-2/3"), row("3/4")), (-1, 2))

    def test_noughts(self):
        self.assertEqual(product(row(0, 0, 0), row(0, "1/2", -3)), (0, 1))
        self.assertEqual(product(row("1/2", 0, 5), row(0, 7, 0)), (0, 1))

    def test_long(self):
        chance = random.Random(6)
        for many in range(13):
            for figures in (1, 2, 12):
                one = tuple(some_fraction(chance, figures) for k in range(many))
                other = tuple(some_fraction(chance, figures) for k in range(many))
                expected = sum((own(a) * own(b) for a, b in zip(one, other)), Fraction(0))
                self.assertEqual(product(one, other), told(expected))
                self.assertTrue(is_fraction(product(one, other)))
        self.assertEqual(product(((NINES, ONES + 1), (1, 9)), ((ONES + 1, ONES), (-9, 1))), (8, 1))


class Kept(unittest.TestCase):
    def test_the_same_again(self):
        one, other = (LONG, 7), (-5, LONG)
        for reckoned in (plus, less, times, over, compared):
            self.assertEqual(reckoned(one, other), reckoned(one, other))
        self.assertEqual(read_number("6/4"), read_number("6/4"))

    def test_nothing_is_changed(self):
        # Lists stand in for rows here, to show that nothing is written to them.
        one, other = list(row(1, "1/2", 0)), list(row("2/3", 4, 5))
        product(one, other)
        self.assertEqual(tuple(one), row(1, "1/2", 0))
        self.assertEqual(tuple(other), row("2/3", 4, 5))


if __name__ == "__main__":
    unittest.main()
