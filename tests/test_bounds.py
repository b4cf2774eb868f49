"""Promises [2], [3], [17] and [18]: nearlaid/corners/bounds.py."""

import copy
import itertools
import random
import unittest
from fractions import Fraction

from nearlaid.corners.bounds import bound_shown, nearest_bound
from nearlaid.tables.nearest import nearest
from nearlaid.tables.ties import nearest_tied
from tests.support import (
    bounds_of, changed, is_fraction, is_row, own, row, some_bounds, some_fraction, some_row, some_rows, some_table,
    some_ties, sum_with, system, told, turned,
)

UNIT = (("a", "b"), (row(1, 0), row(0, 1)), row(3, 5))


def let(ties, bounds, weights):
    """Whether the weights fulfil ties and bounds."""
    for weight, (low, high) in zip(weights, bounds):
        if low is not None and own(weight) < own(low) or high is not None and own(weight) > own(high):
            return False
    return all(sum_with(line, weights) == own(number) for line, number in ties)


def push_let(push, weight, pair):
    """Whether the push is such as the document tells for a weight with these bounds."""
    low, high = pair
    if low == high and low is not None:
        return True
    if weight == high:
        return push >= 0
    return push <= 0 if weight == low else push == 0


def none_holds(ties, bounds, paper):
    """Whether the paper's sum with the numbers is more than its greatest sum with the ties."""
    greatest = Fraction(0)
    for column, (low, high) in zip(turned([line for line, number in ties], len(bounds)), bounds):
        by = sum_with(column, paper)
        end = high if by > 0 else low
        if by != 0 and end is None:
            return False
        greatest += by * own(end) if by != 0 else 0
    return sum_with(paper, [number for line, number in ties]) > greatest


def holds(table, ties, bounds, answer):
    """Whether what is told holds, by the document's words."""
    if answer[0] == "none":
        return none_holds(ties, bounds, answer[1])
    names, rows, wish = table
    word, weights, left, far, pulls = answer
    if not let(ties, bounds, weights) or own(far) != sum_with(left, left):
        return False
    if left != tuple(told(own(w) - sum_with(line, weights)) for line, w in zip(rows, wish)):
        return False
    pulled = turned([line for line, number in ties], len(names))
    pushes = [sum_with(x, left) - sum_with(y, pulls) for x, y in zip(turned(rows, len(names)), pulled)]
    return all(push_let(*parts) for parts in zip(pushes, weights, bounds))


class Checked(unittest.TestCase):
    def check(self, table, ties, bounds, looked=True):
        """Look at what is told in all parts; tell it."""
        before = copy.deepcopy((table, ties, bounds))
        answer = nearest_bound(table, ties, bounds)
        self.assertEqual((table, ties, bounds), before)
        self.assertEqual(nearest_bound(table, ties, bounds), answer)
        self.assertIsInstance(answer, tuple)
        if answer[0] == "none":
            self.assertEqual(len(answer), 2)
            self.assertTrue(is_row(answer[1], len(ties)))
        else:
            self.check_kinds(table, ties, answer)
        self.assertTrue(holds(table, ties, bounds, answer))
        self.assertIs(bound_shown(table, ties, bounds, answer), True)
        if looked:
            self.check_changed(table, ties, bounds, answer)
        return answer

    def check_kinds(self, table, ties, answer):
        word, weights, left, far, pulls = answer
        self.assertEqual(word, "near")
        self.assertTrue(is_row(weights, len(table[0])))
        self.assertTrue(is_row(left, len(table[1])))
        self.assertTrue(is_row(pulls, len(ties)))
        self.assertTrue(is_fraction(far))

    def check_changed(self, table, ties, bounds, answer):
        """The looker tells of each thing with one number changed what the document's words do."""
        for part in range(1, len(answer)):
            if part == 3:
                other = (*answer[:3], (answer[3][0] + 1, answer[3][1]), answer[4])
                self.assertIs(bound_shown(table, ties, bounds, other), False)
                continue
            for at in range(len(answer[part])):
                for by in ((1, 1), (-1, 3)):
                    other = (*answer[:part], changed(answer[part], at, by), *answer[part + 1:])
                    self.assertIs(bound_shown(table, ties, bounds, other), holds(table, ties, bounds, other))


class ByHand(Checked):
    def test_without_ties_and_without_bounds(self):
        chance = random.Random(1)
        for columns, rows in ((0, 0), (0, 3), (2, 0), (1, 2), (3, 5), (6, 10), (6, 2)):
            table = some_table(chance, columns, rows)
            answer = self.check(table, (), ((None, None),) * columns)
            self.assertEqual(answer[0], "near")
            self.assertEqual(answer[2:], (*nearest(table)[1:], ()))

    def test_ties_alone(self):
        answer = self.check(UNIT, system((1, 1, 4)), ((None, None),) * 2)
        self.assertEqual(answer, ("near", row(1, 3), row(2, 2), (8, 1), row(2)))
        self.assertEqual(self.check(UNIT, system((1, 1, 4), (1, 1, 5)), ((None, None),) * 2)[0], "none")
        self.assertEqual(self.check(UNIT, system((0, 0, 1)), ((None, None),) * 2)[0], "none")

    def test_bounds_on_one_side(self):
        answer = self.check(UNIT, (), bounds_of((4, None), (None, 2)))
        self.assertEqual(answer, ("near", row(4, 2), row(-1, 3), (10, 1), ()))
        answer = self.check(UNIT, (), bounds_of((None, 4), (2, None)))
        self.assertEqual(answer, ("near", row(3, 5), row(0, 0), (0, 1), ()))
        answer = self.check(UNIT, (), bounds_of((None, 3), (5, None)))
        self.assertEqual(answer[1], row(3, 5))

    def test_bounds_on_both_sides(self):
        answer = self.check(UNIT, (), bounds_of((0, 1), (6, 7)))
        self.assertEqual(answer, ("near", row(1, 6), row(2, -1), (5, 1), ()))
        answer = self.check(UNIT, (), bounds_of((0, 9), (0, 9)))
        self.assertEqual(answer[1], row(3, 5))

    def test_low_and_high_the_same(self):
        answer = self.check(UNIT, (), bounds_of((7, 7), ("-1/2", "-1/2")))
        self.assertEqual(answer, ("near", row(7, "-1/2"), row(-4, "11/2"), (185, 4), ()))
        answer = self.check(UNIT, system((1, 1, 4)), bounds_of((3, 3), (None, None)))
        self.assertEqual(answer[:4], ("near", row(3, 1), row(0, 4), (16, 1)))
        self.assertEqual(self.check(UNIT, system((1, 1, 4)), bounds_of((3, 3), (2, 2)))[0], "none")
        self.assertEqual(self.check(UNIT, system((1, 1, 5)), bounds_of((3, 3), (2, 2)))[1], row(3, 2))

    def test_a_bound_that_turns_the_others(self):
        # Freely the weights would be 5 and -3; held at -1, the other has to give way, too.
        table = (("a", "b"), (row(1, 0), row(1, 1), row(1, 2)), row(6, 0, 0))
        answer = self.check(table, (), bounds_of((None, None), (-1, None)))
        self.assertEqual(answer, ("near", row(3, -1), row(3, -2, -1), (14, 1), ()))

    def test_ties_and_bounds(self):
        answer = self.check(UNIT, system((1, 1, 4)), bounds_of((2, None), (None, None)))
        self.assertEqual(answer[:4], ("near", row(2, 2), row(1, 3), (10, 1)))
        self.assertEqual(answer[4], row(3))
        answer = self.check(UNIT, system((1, 1, 4)), bounds_of((0, 4), (0, "5/2")))
        self.assertEqual(answer[1], row("3/2", "5/2"))

    def test_columns_of_noughts_and_alike(self):
        table = (("a", "b"), (row(0, 1), row(0, 1)), row(1, 3))
        answer = self.check(table, (), bounds_of((2, 5), (None, 1)))
        self.assertEqual(answer[2:4], (row(0, 2), (4, 1)))
        table = (("a", "b"), (row(1, 1), row(2, 2)), row(5, 10))
        self.assertEqual(self.check(table, (), bounds_of((0, 1), (0, 2)))[1:4], (row(1, 2), row(2, 4), (20, 1)))
        self.assertEqual(self.check(table, (), bounds_of((0, 3), (0, 3)))[3], (0, 1))
        self.assertEqual(self.check(table, (), bounds_of((6, None), (None, -1)))[3], (0, 1))
        self.assertEqual(self.check(table, (), bounds_of((6, None), (0, None)))[1], row(6, 0))

    def test_no_columns(self):
        table = ((), ((), ()), row(1, 2))
        self.assertEqual(self.check(table, (), ()), ("near", (), row(1, 2), (5, 1), ()))
        self.assertEqual(self.check(table, system((0,)), ())[:4], ("near", (), row(1, 2), (5, 1)))
        self.assertEqual(self.check(table, system((0,), ("-1/2",)), ())[0], "none")
        self.assertEqual(self.check(((), (), ()), (), ()), ("near", (), (), (0, 1), ()))

    def test_no_rows(self):
        table = (("a", "b"), (), ())
        answer = self.check(table, (), bounds_of((1, 2), (None, -3)))
        self.assertEqual(answer[2:], ((), (0, 1), ()))
        answer = self.check(table, system((1, 1, 4)), bounds_of((1, 2), (2, 3)))
        self.assertEqual(answer[2:4], ((), (0, 1)))
        self.assertEqual(self.check(table, system((1, 1, 4)), bounds_of((1, 2), (0, 1)))[0], "none")

    def test_none(self):
        for ties, bounds in (
            (system((1, 1, 4)), bounds_of((0, 1), (0, 2))),
            (system((1, 1, -4)), bounds_of((0, None), (0, None))),
            (system((1, -1, 1)), bounds_of((None, 0), (0, None))),
            (system((1, 1, 4), (1, -1, 0)), bounds_of((None, 1), (None, None))),
            (system((2, 0, 3), (0, 3, 2)), bounds_of((0, 1), (0, 1))),
            (system((1, 0, 3), (1, 0, 3), (0, 1, 2)), bounds_of((None, None), (3, None))),
        ):
            self.assertEqual(self.check(UNIT, ties, bounds)[0], "none")

    def test_just_reached(self):
        answer = self.check(UNIT, system((1, 1, 3)), bounds_of((0, 1), (0, 2)))
        self.assertEqual(answer[1], row(1, 2))
        answer = self.check(UNIT, system((1, -1, 0)), bounds_of((None, 0), (0, None)))
        self.assertEqual(answer[1], row(0, 0))

    def test_weights_at_both_kinds_of_bounds(self):
        names = ("a", "b", "c", "d")
        rows = tuple(row(*[1 if k == at else 0 for k in range(4)]) for at in range(4))
        table = (names, rows, row(9, -9, 2, 0))
        answer = self.check(table, system((1, 1, 1, 1, 2)), bounds_of((-1, 1), (-1, 1), (-5, 5), (0, 0)))
        self.assertEqual(answer[1], row(1, -1, 2, 0))
        self.assertEqual(answer[4], row(0))


class Sought(Checked):
    def some_let(self, chance, bounds):
        """Weights within the bounds, often at them."""
        weights = []
        for low, high in bounds:
            ends = [own(end) for end in (low, high) if end is not None] or [Fraction(0)]
            weights.append(chance.choice(ends + [sum(ends) / len(ends)]))
        return tuple(told(weight) for weight in weights)

    def test_of_all_sizes(self):
        chance = random.Random(2)
        words = {"near": 0, "none": 0}
        for columns in range(7):
            for rows in (0, 1, 2, 4, 7, 10):
                for many in range(5):
                    table = some_table(chance, columns, rows)
                    bounds = some_bounds(chance, columns)
                    ties = some_ties(chance, many, self.some_let(chance, bounds))
                    words[self.check(table, ties, bounds, looked=rows < 4)[0]] += 1
        self.assertGreater(min(words.values()), 20)

    def test_many_small_ones(self):
        """Small numbers bring many weights that lie at bounds with pushes of nought."""
        chance = random.Random(3)
        pairs = bounds_of((None, None), (0, None), (None, 0), (0, 1), (-1, 0), (1, 1), (-1, 1))
        for round_ in range(600):
            columns, rows, many = chance.randrange(5), chance.randrange(5), chance.randrange(3)
            lines = tuple(row(*[chance.randint(-1, 1) for k in range(columns)]) for at in range(rows + many))
            table = (tuple("abcdef"[:columns]), lines[:rows], row(*[chance.randint(-2, 2) for k in range(rows)]))
            ties = tuple((line, (chance.randint(-1, 1), 1)) for line in lines[rows:])
            self.check(table, ties, tuple(chance.choice(pairs) for k in range(columns)), looked=False)

    def test_all_faces_of_a_cube(self):
        """The nearest within a cube is as near as the nearest of those faces whose nearest lie in it."""
        chance = random.Random(4)
        bounds = bounds_of(*[(-1, 1)] * 3)
        for round_ in range(40):
            table = some_table(chance, 3, 4)
            fars = []
            for face in itertools.product((-1, None, 1), repeat=3):
                held = [(k, end) for k, end in enumerate(face) if end is not None]
                ties = tuple((row(*[1 if at == k else 0 for at in range(3)]), row(end)[0]) for k, end in held)
                answer = nearest_tied(table, ties)
                if let((), bounds, answer[1]):
                    fars.append(own(answer[3]))
            self.assertEqual(own(self.check(table, (), bounds)[3]), min(fars))

    def test_twelve_figures(self):
        chance = random.Random(5)
        for many in (0, 2, 4):
            table = some_table(chance, 6, 10, 12)
            bounds = some_bounds(chance, 6, 12)
            self.check(table, some_ties(chance, many, self.some_let(chance, bounds), 12), bounds, looked=False)
            bounds = bounds_of(*[("-1/7", "1/7")] * 6)
            self.check(table, some_ties(chance, many, self.some_let(chance, bounds), 12), bounds, looked=False)

    def test_bounds_of_any_fractions(self):
        chance = random.Random(6)
        table = some_table(chance, 4, 6, 3)
        weights = nearest(table)[0]
        most = 10 ** 60 + 7
        bounds = tuple((told(own(w) + Fraction(1, most)), None) for w in weights)
        self.check(table, (), bounds)
        bounds = tuple((w, w) for w in weights)
        self.assertEqual(self.check(table, (), bounds)[1], weights)
        bounds = tuple((told(own(w) - Fraction(k, most)), w) for k, w in enumerate(weights))
        self.assertEqual(own(self.check(table, (), bounds)[3]), own(nearest(table)[2]))


class Looked(unittest.TestCase):
    def shown(self, table, ties, bounds, answer, truth):
        self.assertEqual(holds(table, ties, bounds, answer), truth)
        self.assertIs(bound_shown(table, ties, bounds, answer), truth)

    def test_the_told_thing(self):
        ties, bounds = system((1, 1, 4)), bounds_of((2, None), (None, None))
        self.shown(UNIT, ties, bounds, ("near", row(2, 2), row(1, 3), (10, 1), row(3)), True)

    def test_others_that_hold(self):
        table = (("a", "b"), (row(1, 1),), row(2))
        for weights in (row(1, 1), row(0, 2), row(2, 0), row("1/3", "5/3")):
            self.shown(table, (), bounds_of((0, 3), (0, 3)), ("near", weights, row(0), (0, 1), ()), True)
        # Pulls may differ where ties are alike, or where a bound holds a push.
        ties = system((1, 1, 4), (2, 2, 8))
        for pulls in (row(2, 0), row(0, 1), row(12, -5)):
            answer = ("near", row(1, 3), row(2, 2), (8, 1), pulls)
            self.shown(UNIT, ties, bounds_of((0, None), (0, None)), answer, True)
        bounds = bounds_of((2, 2), (None, 2))
        for pull, truth in ((3, True), (-7, True), ("5/2", True), ("7/2", False)):
            answer = ("near", row(2, 2), row(1, 3), (10, 1), row(pull))
            self.shown(UNIT, system((1, 1, 4)), bounds, answer, truth)

    def test_a_tie_is_not_so(self):
        bounds = bounds_of((0, 9), (0, 9))
        answer = ("near", row(3, 5), row(0, 0), (0, 1), row(0))
        self.shown(UNIT, system((1, 1, 8)), bounds, answer, True)
        self.shown(UNIT, system((1, 1, 7)), bounds, answer, False)
        self.shown(UNIT, system((1, 1, 8), (1, 0, 2)), bounds, (*answer[:4], row(0, 0)), False)

    def test_a_bound_is_not_so(self):
        answer = ("near", row(3, 5), row(0, 0), (0, 1), ())
        self.shown(UNIT, (), bounds_of((3, None), (None, 5)), answer, True)
        for pairs in (((4, None), (None, None)), ((None, None), (None, "24/5")), ((0, 2), (0, 9)), ((0, 9), (6, 9))):
            self.shown(UNIT, (), bounds_of(*pairs), answer, False)

    def test_what_is_left_is_not_so(self):
        table = (("a",), (row(1), row(0)), row(1, 2))
        self.shown(table, (), bounds_of((None, None)), ("near", row(1), row(0, 2), (4, 1), ()), True)
        # How far goes with it, and it is upright, but it is not what is left.
        self.shown(table, (), bounds_of((None, None)), ("near", row(1), row(0, -2), (4, 1), ()), False)
        self.shown(table, (), bounds_of((None, None)), ("near", row(1), row(0, 1), (1, 1), ()), False)
        self.shown(table, (), bounds_of((None, None)), ("near", row(0), row(0, 2), (4, 1), ()), False)

    def test_how_far_is_not_so(self):
        table = (("a",), (row(1), row(0)), row(1, 2))
        for far in ((0, 1), (2, 1), (5, 1), (-4, 1), (1, 4)):
            self.shown(table, (), bounds_of((None, None)), ("near", row(1), row(0, 2), far, ()), False)

    def test_a_push_that_no_bound_holds(self):
        table = (("a",), (row(1),), row(5))
        answer = ("near", row(2), row(3), (9, 1), ())
        for pair, truth in (
            ((None, 2), True), ((0, 2), True), ((2, 2), True), ((None, None), False), ((2, None), False),
            ((2, 3), False), ((0, 3), False), ((None, 3), False),
        ):
            self.shown(table, (), bounds_of(pair), answer, truth)
        answer = ("near", row(7), row(-2), (4, 1), ())
        for pair, truth in (
            ((7, None), True), ((7, 8), True), ((7, 7), True), ((None, None), False), ((None, 7), False),
            ((6, 7), False), ((6, 8), False),
        ):
            self.shown(table, (), bounds_of(pair), answer, truth)

    def test_pulls_that_are_not_so(self):
        ties, bounds = system((1, 1, 4)), bounds_of((2, None), (None, None))
        for pull, truth in ((3, True), (1, False), (2, False), (4, False), (0, False), (-3, False)):
            self.shown(UNIT, ties, bounds, ("near", row(2, 2), row(1, 3), (10, 1), row(pull)), truth)

    def test_papers(self):
        ties, bounds = system((1, 1, 4)), bounds_of((0, 1), (0, 2))
        self.shown(UNIT, ties, bounds, ("none", row(1)), True)
        self.shown(UNIT, ties, bounds, ("none", row("1/9")), True)
        self.shown(UNIT, ties, bounds, ("none", row(0)), False)
        self.shown(UNIT, ties, bounds, ("none", row(-1)), False)

    def test_papers_whose_sum_is_as_much(self):
        self.shown(UNIT, system((1, 1, 3)), bounds_of((0, 1), (0, 2)), ("none", row(1)), False)
        self.shown(UNIT, system((1, 1, 0)), bounds_of((0, 1), (0, 2)), ("none", row(-1)), False)
        self.shown(UNIT, system((1, 1, -1)), bounds_of((0, 1), (0, 2)), ("none", row(-1)), True)

    def test_papers_whose_sum_is_without_end(self):
        ties = system((1, 1, 4))
        self.shown(UNIT, ties, bounds_of((0, None), (0, 2)), ("none", row(1)), False)
        self.shown(UNIT, ties, bounds_of((0, 1), (None, None)), ("none", row(1)), False)
        self.shown(UNIT, ties, bounds_of((None, 1), (None, 2)), ("none", row(1)), True)
        self.shown(UNIT, system((1, 1, -4)), bounds_of((None, 1), (0, 2)), ("none", row(-1)), False)
        # A column whose sum is 0 needs no bounds.
        self.shown(UNIT, system((1, 1, 4), (1, 0, 0)), bounds_of((None, None), (0, 2)), ("none", row(1, -1)), True)
        self.shown(UNIT, system((1, 1, 4), (1, 0, 0)), bounds_of((None, None), (0, 2)), ("none", row(1, -2)), False)

    def test_papers_without_ties(self):
        self.shown(UNIT, (), bounds_of((0, 1), (0, 2)), ("none", ()), False)
        self.shown(((), (), ()), (), (), ("none", ()), False)
        self.shown(((), (), ()), system((3,)), (), ("none", row(1)), True)

    def test_of_any_fractions(self):
        most = 10 ** 300 + 7
        table = (("a", "b"), (row(1, 1),), row(2))
        weights = ((1, most), (2 * most - 1, most))
        self.shown(table, (), bounds_of((0, 3), (0, 3)), ("near", weights, row(0), (0, 1), ()), True)
        self.shown(table, (), bounds_of((0, 3), (0, "3/2")), ("near", weights, row(0), (0, 1), ()), False)
        self.shown(UNIT, system((1, 1, 4)), bounds_of((0, 1), (0, 2)), ("none", ((1, most),)), True)

    def test_some_changed(self):
        chance = random.Random(7)
        for round_ in range(200):
            table = some_table(chance, 2, 2)
            ties = tuple((line, some_fraction(chance)) for line in some_rows(chance, chance.randrange(2), 2))
            bounds = bounds_of((0, None), (-1, 1))
            weights, pulls = some_row(chance, 2), some_row(chance, len(ties))
            left = tuple(told(own(w) - sum_with(line, weights)) for line, w in zip(table[1], table[2]))
            answer = ("near", weights, left, told(sum_with(left, left)), pulls)
            self.shown(table, ties, bounds, answer, holds(table, ties, bounds, answer))


if __name__ == "__main__":
    unittest.main()
