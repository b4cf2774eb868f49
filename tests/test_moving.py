"""Promises [2], [3], [24] and [25]: nearlaid/paths/moving.py."""

import copy
import random
import unittest
from fractions import Fraction

from nearlaid.corners.bounds import nearest_bound
from nearlaid.paths.moving import moving_knots, moving_shown
from tests.support import (
    bounds_of, changed, is_fraction, is_row, own, own_left, row, some_bounds, some_row, some_table, sum_with, told,
    turned,
)

ONE_COLUMN = (("a",), (row(1),), row(-1))
UNIT = (("a", "b"), (row(1, 0), row(0, 1)), row(-1, -1))


def between(one, other, part):
    """What lies straight between two rows."""
    return tuple(told(own(x) * (1 - part) + own(y) * part) for x, y in zip(one, other))


def table_at(table, other, t):
    """The table with the wish at t."""
    return (table[0], table[1], between(table[2], other, Fraction(t)))


def column_holds(pushes, weights, bound):
    """Whether pushes and weights of a column at two neighbours are such as the document tells."""
    low, high = bound
    if low is not None and low == high:
        return True
    if pushes == [0, 0]:
        return True
    if min(pushes) >= 0 and high is not None and weights == [own(high), own(high)]:
        return True
    return max(pushes) <= 0 and low is not None and weights == [own(low), own(low)]


def piece_holds(table, other, bounds, ends, pair):
    """Whether the document's words hold for two neighbours."""
    for (t, left), weights in zip(ends, pair):
        for weight, (low, high) in zip(weights, bounds):
            if low is not None and own(weight) < own(low) or high is not None and own(weight) > own(high):
                return False
        if own_left(table_at(table, other, own(t)), weights) != left:
            return False
    for k, column in enumerate(turned(table[1], len(table[0]))):
        pushes = [sum_with(column, left) for t, left in ends]
        if not column_holds(pushes, [own(weights[k]) for weights in pair], bounds[k]):
            return False
    return True


def holds(table, other, bounds, knots, paper):
    """Whether knots and paper hold, by the document's words."""
    times = [own(t) for t, left in knots]
    if times[0] != 0 or times[-1] != 1 or any(x >= y for x, y in zip(times, times[1:])):
        return False
    for at in range(1, len(knots) - 1):
        part = (times[at] - times[at - 1]) / (times[at + 1] - times[at - 1])
        if knots[at][1] == between(knots[at - 1][1], knots[at + 1][1], part):
            return False
    return all(piece_holds(table, other, bounds, knots[at:at + 2], paper[at]) for at in range(len(paper)))


class Checked(unittest.TestCase):
    def check(self, table, other, bounds, looked=True):
        """Look at what is told in all parts; tell it."""
        before = copy.deepcopy((table, other, bounds))
        answer = moving_knots(table, other, bounds)
        self.assertEqual((table, other, bounds), before)
        self.assertEqual(moving_knots(table, other, bounds), answer)
        self.check_kinds(table, answer)
        knots, paper = answer
        self.assertTrue(holds(table, other, bounds, knots, paper))
        self.assertIs(moving_shown(table, other, bounds, knots, paper), True)
        if looked:
            self.check_between(table, other, bounds, knots)
        return answer

    def check_kinds(self, table, answer):
        self.assertIsInstance(answer, tuple)
        knots, paper = answer
        self.assertIsInstance(knots, tuple)
        self.assertIsInstance(paper, tuple)
        self.assertEqual(len(paper), len(knots) - 1)
        for knot in knots:
            self.assertIsInstance(knot, tuple)
            t, left = knot
            self.assertTrue(is_fraction(t))
            self.assertTrue(is_row(left, len(table[1])))
        for pair in paper:
            self.assertIsInstance(pair, tuple)
            self.assertEqual(len(pair), 2)
            self.assertTrue(all(is_row(weights, len(table[0])) for weights in pair))

    def check_between(self, table, other, bounds, knots):
        """What is left at the knots and between them is what is told of the wish there."""
        for (t, left), (later, later_left) in zip(knots, knots[1:]):
            for part in (Fraction(0), Fraction(1, 3), Fraction(1, 2), Fraction(1)):
                at = own(t) * (1 - part) + own(later) * part
                asked = nearest_bound(table_at(table, other, at), (), bounds)
                self.assertEqual(asked[2], between(left, later_left, part))


class ByHand(Checked):
    def test_no_columns(self):
        self.assertEqual(self.check(((), (), ()), (), ()), ((((0, 1), ()), ((1, 1), ())), (((), ()),)))
        table = ((), ((), ()), row(1, 2))
        knots, paper = self.check(table, row(3, 1), ())
        self.assertEqual(knots, (((0, 1), row(1, 2)), ((1, 1), row(3, 1))))
        self.assertEqual(paper, (((), ()),))

    def test_no_rows(self):
        table = (("a", "b"), (), ())
        for bounds in (bounds_of((None, None), (None, None)), bounds_of((1, 2), (None, -3))):
            knots, paper = self.check(table, (), bounds)
            self.assertEqual(knots, (((0, 1), ()), ((1, 1), ())))

    def test_no_bounds(self):
        table = (("a",), (row(1), row(1)), row(1, 3))
        knots, paper = self.check(table, row(5, 1), bounds_of((None, None)))
        self.assertEqual(knots, (((0, 1), row(-1, 1)), ((1, 1), row(2, -2))))
        self.assertEqual(paper, ((row(2), row(3)),))

    def test_bounds_on_one_side(self):
        knots, paper = self.check(ONE_COLUMN, row(2), bounds_of((0, None)))
        self.assertEqual(knots, (((0, 1), row(-1)), ((1, 3), row(0)), ((1, 1), row(0))))
        self.assertEqual(paper, ((row(0), row(0)), (row(0), row(2))))
        knots, paper = self.check(ONE_COLUMN, row(2), bounds_of((None, 1)))
        self.assertEqual(knots, (((0, 1), row(0)), ((2, 3), row(0)), ((1, 1), row(1))))
        self.assertEqual(paper, ((row(-1), row(1)), (row(1), row(1))))

    def test_halfway(self):
        knots, paper = self.check((("a",), (row(1),), row("-1/2")), row("1/2"), bounds_of((0, None)))
        self.assertEqual(knots, (((0, 1), row("-1/2")), ((1, 2), row(0)), ((1, 1), row(0))))

    def test_bounds_on_both_sides(self):
        knots, paper = self.check(ONE_COLUMN, row(2), bounds_of((0, 1)))
        self.assertEqual(knots, (((0, 1), row(-1)), ((1, 3), row(0)), ((2, 3), row(0)), ((1, 1), row(1))))
        self.assertEqual(paper, ((row(0), row(0)), (row(0), row(1)), (row(1), row(1))))
        # And the same way back.
        back, paper = self.check((("a",), (row(1),), row(2)), row(-1), bounds_of((0, 1)))
        self.assertEqual([left for t, left in back], [left for t, left in knots][::-1])

    def test_low_and_high_the_same(self):
        knots, paper = self.check(ONE_COLUMN, row(2), bounds_of(("1/2", "1/2")))
        self.assertEqual(knots, (((0, 1), row("-3/2")), ((1, 1), row("3/2"))))
        self.assertEqual(paper, ((row("1/2"), row("1/2")),))
        knots, paper = self.check(UNIT, row(2, 2), bounds_of((0, 0), (0, None)))
        self.assertEqual([t for t, left in knots], list(row(0, "1/3", 1)))

    def test_just_at_a_bound(self):
        # The weight is at its bound at first, or at last, or all along: no knot is due.
        for wish, other, bound in ((0, 2, (0, None)), (-1, 0, (None, 0)), (-1, 0, (0, None)), (0, -3, (0, 5))):
            knots, paper = self.check((("a",), (row(1),), row(wish)), row(other), bounds_of(bound))
            self.assertEqual(len(knots), 2)

    def test_a_wish_that_does_not_move(self):
        chance = random.Random(1)
        for columns, rows in ((0, 2), (1, 1), (3, 4), (6, 10), (4, 2)):
            table = some_table(chance, columns, rows)
            bounds = some_bounds(chance, columns)
            knots, paper = self.check(table, table[2], bounds)
            left = nearest_bound(table, (), bounds)[2]
            self.assertEqual(knots, (((0, 1), left), ((1, 1), left)))

    def test_a_weight_that_comes_to_a_bound_and_leaves_it(self):
        # The weight of a is at its high bound from 1/3 to 2/3 only.
        table = (("a", "b"), (row(2, 1), row(1, 1)), row(2, 3))
        knots, paper = self.check(table, row(3, -2), bounds_of((0, 1), (0, 1)))
        self.assertEqual([t for t, left in knots], list(row(0, "3/11", "1/3", "1/2", "2/3", 1)))
        ends = [(own(begin[0]), own(end[0])) for begin, end in paper]
        self.assertEqual(ends[1:], [(Fraction(7, 11), 1), (1, 1), (1, 1), (1, Fraction(4, 5))])

    def test_several_at_the_same_time(self):
        knots, paper = self.check(UNIT, row(1, 1), bounds_of((0, None), (0, None)))
        self.assertEqual(knots, (((0, 1), row(-1, -1)), ((1, 2), row(0, 0)), ((1, 1), row(0, 0))))
        knots, paper = self.check(UNIT, row(1, 1), bounds_of((None, 0), (0, None)))
        self.assertEqual(knots, (((0, 1), row(0, -1)), ((1, 2), row(0, 0)), ((1, 1), row(1, 0))))
        knots, paper = self.check(UNIT, row(2, 2), bounds_of((0, 1), (0, 1)))
        self.assertEqual([t for t, left in knots], list(row(0, "1/3", "2/3", 1)))

    def test_columns_that_are_nought(self):
        table = (("a", "b"), (row(0, 1),), row(-1))
        knots, paper = self.check(table, row(2), bounds_of((3, 4), (0, 1)))
        self.assertEqual([t for t, left in knots], list(row(0, "1/3", "2/3", 1)))

    def test_columns_alike(self):
        # Either column could take all: only where both are at their bounds there is a knot.
        table = (("a", "b"), (row(1, 1),), row(-1))
        knots, paper = self.check(table, row(5), bounds_of((0, 1), (0, 2)))
        self.assertEqual([t for t, left in knots], list(row(0, "1/6", "2/3", 1)))
        knots, paper = self.check(table, row(5), bounds_of((0, 1), (0, None)))
        self.assertEqual([t for t, left in knots], list(row(0, "1/6", 1)))
        knots, paper = self.check(table, row(5), bounds_of((0, None), (None, 0)))
        self.assertEqual(len(knots), 2)

    def test_columns_that_are_sums(self):
        table = (("a", "b", "c"), (row(1, 0, 1), row(0, 1, 1)), row(0, 0))
        knots, paper = self.check(table, row(6, 6), bounds_of((0, 1), (0, 1), (0, 1)))
        self.assertEqual(knots, (((0, 1), row(0, 0)), ((1, 3), row(0, 0)), ((1, 1), row(4, 4))))


class Sought(Checked):
    def test_of_all_sizes(self):
        chance = random.Random(2)
        many = 0
        for columns in range(7):
            for rows in (0, 1, 2, 4, 7, 10):
                for figures in (1, 2):
                    table = some_table(chance, columns, rows, figures)
                    knots, paper = self.check(table, some_row(chance, rows, figures), some_bounds(chance, columns))
                    many = max(many, len(knots))
        self.assertGreater(many, 2)

    def test_many_small_ones(self):
        """Small numbers bring several weights to bounds at the same t, and pushes of nought."""
        chance = random.Random(3)
        pairs = bounds_of((None, None), (0, None), (None, 0), (0, 1), (-1, 0), (1, 1), (-1, 1))
        lengths = {}
        for round_ in range(300):
            columns, rows = chance.randrange(5), chance.randrange(5)
            lines = tuple(row(*[chance.randint(-1, 1) for k in range(columns)]) for at in range(rows))
            wishes = [row(*[chance.randint(-3, 3) for k in range(rows)]) for at in range(2)]
            table = (tuple("abcdef"[:columns]), lines, wishes[0])
            knots, paper = self.check(table, wishes[1], tuple(chance.choice(pairs) for k in range(columns)))
            lengths[len(knots)] = lengths.get(len(knots), 0) + 1
        self.assertTrue({2, 3, 4, 5} <= set(lengths), lengths)

    def test_within_a_cube(self):
        """In narrow bounds nearly all weights come to them and leave them."""
        chance = random.Random(4)
        left_again = 0
        for round_ in range(30):
            columns = chance.randint(3, 6)
            lines = tuple(some_row(chance, columns) for k in range(columns + 1))
            table = (tuple("abcdef"[:columns]), lines, some_row(chance, columns + 1))
            bounds = bounds_of(*[("-1/2", "1/2")] * columns)
            knots, paper = self.check(table, some_row(chance, columns + 1), bounds)
            for k in range(columns):
                free = [own(pair[0][k]) != own(pair[1][k]) for pair in paper]
                first = free.index(True) if True in free else 0
                left_again += any(not x and any(free[at:]) for at, x in enumerate(free) if at > first)
        self.assertGreater(left_again, 5)

    def test_twelve_figures(self):
        chance = random.Random(5)
        for bound in (("-1/7", "1/7"), (0, None)):
            table = some_table(chance, 6, 10, 12)
            self.check(table, some_row(chance, 10, 12), bounds_of(*[bound] * 6), looked=False)

    def test_told_things_handed_on(self):
        chance = random.Random(6)
        table = some_table(chance, 3, 4, 3)
        bounds = bounds_of(*[("-1/7", "1/7")] * 3)
        knots, paper = self.check(table, some_row(chance, 4, 3), bounds)
        self.check(table, knots[-1][1], bounds)
        self.check((table[0], table[1], knots[-1][1]), knots[0][1], tuple((w, None) for w in paper[0][0]))


class Looked(unittest.TestCase):
    def setUp(self):
        self.asked = (ONE_COLUMN, row(2), bounds_of((0, 1)))
        self.knots = (((0, 1), row(-1)), ((1, 3), row(0)), ((2, 3), row(0)), ((1, 1), row(1)))
        self.paper = ((row(0), row(0)), (row(0), row(1)), (row(1), row(1)))

    def shown(self, asked, knots, paper, truth):
        self.assertEqual(holds(*asked, knots, paper), truth)
        self.assertIs(moving_shown(*asked, knots, paper), truth)

    def test_the_told_thing(self):
        self.shown(self.asked, self.knots, self.paper, True)

    def test_other_papers_that_hold(self):
        asked = ((("a", "b"), (row(1, 1),), row(0)), row(2), bounds_of((0, 3), (0, 3)))
        knots = (((0, 1), row(0)), ((1, 1), row(0)))
        for end in (row(1, 1), row(2, 0), row(0, 2), row("1/3", "5/3")):
            self.shown(asked, knots, ((row(0, 0), end),), True)
        self.shown(asked, knots, ((row(0, 0), row(1, 2)),), False)
        asked = ((("a", "b"), (row(0, 1),), row(0)), row(2), bounds_of((-4, 4), (0, None)))
        for begin, end in ((-4, 4), (4, "1/2"), (0, 0)):
            self.shown(asked, knots, ((row(begin, 0), row(end, 2)),), True)
        self.shown(asked, knots, ((row(-5, 0), row(0, 2)),), False)
        self.shown(asked, knots, ((row(0, 0), row("9/2", 2)),), False)

    def test_t_is_not_so(self):
        for at, t in ((0, "1/9"), (0, -1), (1, "1/2"), (1, "2/3"), (1, 0), (2, "1/3"), (3, "9/10"), (3, 2)):
            knots = self.knots[:at] + ((row(t)[0], self.knots[at][1]),) + self.knots[at + 1:]
            self.shown(self.asked, knots, self.paper, False)

    def test_t_does_not_reach_from_0_to_1(self):
        # All is right, but a part of the way only.
        self.shown(self.asked, self.knots[1:], self.paper[1:], False)
        self.shown(self.asked, self.knots[:-1], self.paper[:-1], False)
        beyond = (*self.knots[:-1], ((4, 3), row(2)))
        self.shown(self.asked, beyond, self.paper, False)
        self.shown(self.asked, (((-1, 3), row(-2)), *self.knots[1:]), self.paper, False)

    def test_t_does_not_rise(self):
        knots = (*self.knots[:2], self.knots[1], *self.knots[2:])
        paper = (self.paper[0], (row(0), row(0)), *self.paper[1:])
        self.shown(self.asked, knots, paper, False)
        knots = (*self.knots[:2], self.knots[1], self.knots[1], *self.knots[2:])
        paper = (self.paper[0], (row(0), row(0)), (row(0), row(0)), *self.paper[1:])
        self.shown(self.asked, knots, paper, False)
        # There and back again: each two neighbours are as told, but t falls.
        knots = (*self.knots[:3], self.knots[1], *self.knots[2:])
        paper = (*self.paper[:2], (row(1), row(0)), (row(0), row(1)), self.paper[2])
        self.shown(self.asked, knots, paper, False)

    def test_what_is_left_is_not_so(self):
        for at in range(4):
            for by in ((1, 1), (-1, 3)):
                t, left = self.knots[at]
                knots = self.knots[:at] + ((t, changed(left, 0, by)),) + self.knots[at + 1:]
                self.shown(self.asked, knots, self.paper, False)

    def test_a_weight_is_not_so(self):
        for at in range(3):
            for end in range(2):
                for by in ((1, 1), (-1, 3)):
                    pair = list(self.paper[at])
                    pair[end] = changed(pair[end], 0, by)
                    paper = self.paper[:at] + (tuple(pair),) + self.paper[at + 1:]
                    self.shown(self.asked, self.knots, paper, False)

    def test_a_weight_beyond_a_bound(self):
        # Without bounds the wish is reached all along; with them this is not let.
        knots, paper = (((0, 1), row(0)), ((1, 1), row(0))), ((row(-1), row(2)),)
        for bound, truth in (((None, None), True), ((-1, 2), True), ((0, None), False), ((None, 1), False)):
            self.shown((ONE_COLUMN, row(2), bounds_of(bound)), knots, paper, truth)

    def test_a_push_that_no_bound_holds(self):
        table = (("a",), (row(1),), row(3))
        knots, paper = (((0, 1), row(1)), ((1, 1), row(2))), ((row(2), row(2)),)
        for bound, truth in (
            ((None, 2), True), ((0, 2), True), ((2, 2), True), ((2, None), False), ((None, None), False), ((2, 3), False),
        ):
            self.shown((table, row(4), bounds_of(bound)), knots, paper, truth)
        table = (("a",), (row(1),), row(1))
        knots = (((0, 1), row(-1)), ((1, 1), row(-2)))
        for bound, truth in (
            ((2, None), True), ((2, 3), True), ((2, 2), True), ((None, 2), False), ((None, None), False), ((0, 2), False),
        ):
            self.shown((table, row(0), bounds_of(bound)), knots, paper, truth)

    def test_a_push_that_is_held_at_one_end_alone(self):
        # At both ends the weights are nearest, but between them they are not.
        knots = (((0, 1), row(-1)), ((1, 1), row(0)))
        paper = ((row(0), row(2)),)
        self.shown((ONE_COLUMN, row(2), bounds_of((0, None))), knots, paper, False)
        knots = (((0, 1), row(-1)), ((1, 1), row(1)))
        self.shown((ONE_COLUMN, row(2), bounds_of((0, 1))), knots, ((row(0), row(1)),), False)
        # The push turns its sign while the weight stays at a bound.
        self.shown((ONE_COLUMN, row(1), bounds_of((0, 1))), knots, ((row(0), row(0)),), False)
        self.shown((ONE_COLUMN, row(1), bounds_of((0, 0))), knots, ((row(0), row(0)),), True)
        self.shown((ONE_COLUMN, row(1), bounds_of((-1, 0))), knots, ((row(0), row(0)),), False)

    def test_a_push_of_0_at_one_end(self):
        knots = (((0, 1), row(-1)), ((1, 1), row(0)))
        for bound, truth in (((0, 1), True), ((0, None), True), ((None, 0), False), ((-1, 1), False)):
            self.shown((ONE_COLUMN, row(0), bounds_of(bound)), knots, ((row(0), row(0)),), truth)

    def test_a_knot_straight_between(self):
        for at, t, left, middle in ((1, "1/6", "-1/2", 0), (2, "1/2", 0, "1/2"), (3, "5/6", "1/2", 1)):
            knots = (*self.knots[:at], (row(t)[0], row(left)), *self.knots[at:])
            begin, end = self.paper[at - 1]
            paper = (*self.paper[:at - 1], (begin, row(middle)), (row(middle), end), *self.paper[at:])
            self.assertTrue(all(piece_holds(*self.asked, knots[k:k + 2], paper[k]) for k in range(4)))
            self.shown(self.asked, knots, paper, False)

    def test_a_knot_missing(self):
        for at in (1, 2):
            knots = self.knots[:at] + self.knots[at + 1:]
            paper = (*self.paper[:at - 1], (self.paper[at - 1][0], self.paper[at][1]), *self.paper[at + 1:])
            self.shown(self.asked, knots, paper, False)

    def test_without_rows_no_knot_is_due(self):
        asked = ((("a",), (), ()), (), bounds_of((0, 1)))
        ends = ((0, 1), ()), ((1, 1), ())
        self.shown(asked, ends, ((row(0), row(1)),), True)
        self.shown(asked, ends, ((row(0), row(2)),), False)
        self.shown(asked, (ends[0], ((1, 2), ()), ends[1]), ((row(0), row(1)), (row(1), row(1))), False)

    def test_of_any_fractions(self):
        most = 10 ** 300 + 7
        asked = ((("a", "b"), (row(1, 1),), row(0)), row(2), bounds_of((0, 3), (0, 3)))
        knots = (((0, 1), row(0)), ((1, 1), row(0)))
        self.shown(asked, knots, ((row(0, 0), ((1, most), (2 * most - 1, most))),), True)
        self.shown(asked, knots, ((row(0, 0), ((-1, most), (2 * most + 1, most))),), False)

    def test_some_changed(self):
        chance = random.Random(7)
        truths = {True: 0, False: 0}
        for round_ in range(60):
            columns, rows = chance.randint(1, 4), chance.randint(1, 4)
            table, other = some_table(chance, columns, rows), some_row(chance, rows)
            bounds = some_bounds(chance, columns)
            knots, paper = moving_knots(table, other, bounds)
            at, end, k = chance.randrange(len(paper)), chance.randrange(2), chance.randrange(columns)
            pair = list(paper[at])
            pair[end] = changed(pair[end], k, chance.choice(((1, 1), (-1, 3))))
            paper = (*paper[:at], tuple(pair), *paper[at + 1:])
            truth = holds(table, other, bounds, knots, paper)
            truths[truth] += 1
            self.shown((table, other, bounds), knots, paper, truth)
        self.assertGreater(min(truths.values()), 3)


if __name__ == "__main__":
    unittest.main()
