"""Promises [2], [3], [36] and [37]: nearlaid/choices/wholes.py, and boxes.py and knots.py beside it."""

import copy
import itertools
import random
import unittest
from fractions import Fraction

from nearlaid.choices.boxes import box_nearest, far_at, low_place, question_of, settled
from nearlaid.choices.wholes import nearest_wholes, wholes_shown
from nearlaid.corners.bounds import nearest_bound
from nearlaid.numbers.fractions import common_below
from tests.support import (
    bounds_of, is_fraction, is_row, own, own_left, rank, row, some_row, some_table, sum_with, told, turned,
)

HALF = (("a",), (row(1),), row("1/3"))
UNIT = (("a", "b"), (row(1, 0), row(0, 1)), row("1/2", "7/3"))


def own_far(table, weights):
    """How far whole weights are, as Python's own fraction."""
    left = own_left(table, row(*weights))
    return sum_with(left, left)


def first_by_all(table, bounds):
    """(weights, how far) by going through all whole weights within the bounds."""
    best = None
    for weights in itertools.product(*[range(low, high + 1) for low, high in bounds]):
        far = own_far(table, weights)
        if best is None or far < best[1]:
            best = (weights, far)
    return best


def names_hold(paper, many):
    """Whether columns and knots are named as the document lets them."""
    named = set()
    for at, knot in enumerate(paper):
        if knot[0] == "split":
            word, column, number, low, high = knot
            if column not in range(many):
                return False
            for behind in (low, high):
                if behind <= at or behind >= len(paper) or behind in named:
                    return False
                named.add(behind)
    return len(paper) > 0


def end_holds(table, box, far, knot):
    """Whether an end shows that none within the box is nearer than that far."""
    names, rows, wish = table
    word, pulls, told_far = knot
    most = Fraction(0)
    for column, (low, high) in zip(turned(rows, len(names)), box):
        by = sum_with(column, pulls)
        most += max(by * low, by * high)
    shown = 2 * sum_with(wish, pulls) - sum_with(pulls, pulls) - 2 * most
    return own(told_far) == shown and shown >= far


def ends_hold(table, box, far, paper, at):
    """Whether each end behind a knot does not count, or shows it; by going all ways."""
    knot = paper[at]
    if knot[0] == "split":
        word, column, number, low_knot, high_knot = knot
        low, high = box[column]
        below, above = list(box), list(box)
        below[column] = (low, min(high, number))
        above[column] = (max(low, number + 1), high)
        return ends_hold(table, below, far, paper, low_knot) and ends_hold(table, above, far, paper, high_knot)
    if any(low > high for low, high in box):
        return True
    return end_holds(table, box, far, knot)


def holds(table, bounds, weights, paper):
    """Whether the paper lets the weights by, by the document's words."""
    if not names_hold(paper, len(table[0])):
        return False
    if any(weight < low or weight > high for weight, (low, high) in zip(weights, bounds)):
        return False
    return ends_hold(table, list(bounds), own_far(table, weights), paper, 0)


def end(pulls, far):
    """An end of numbers."""
    return ("end", row(*pulls), row(far)[0])


class Checked(unittest.TestCase):
    def check(self, table, bounds, all_ways=True):
        """Look at what is told in all parts; tell it."""
        before = copy.deepcopy((table, bounds))
        answer = nearest_wholes(table, bounds)
        self.assertEqual((table, bounds), before)
        self.assertEqual(nearest_wholes(table, bounds), answer)
        self.assertIsInstance(answer, tuple)
        weights, far, paper = answer
        self.assertIsInstance(weights, tuple)
        self.assertEqual(len(weights), len(table[0]))
        self.assertTrue(all(type(weight) is int for weight in weights))
        self.assertTrue(is_fraction(far))
        self.assertEqual(own(far), own_far(table, weights))
        if all_ways:
            self.assertEqual((weights, own(far)), first_by_all(table, bounds))
        self.check_paper(table, paper)
        self.assertTrue(holds(table, bounds, weights, paper))
        self.assertIs(wholes_shown(table, bounds, weights, paper), True)
        return answer

    def check_paper(self, table, paper):
        self.assertIsInstance(paper, tuple)
        for knot in paper:
            self.assertIsInstance(knot, tuple)
            if knot[0] == "split":
                self.assertTrue(all(type(number) is int for number in knot[1:]))
                self.assertEqual(len(knot), 5)
            else:
                word, pulls, far = knot
                self.assertEqual(word, "end")
                self.assertTrue(is_row(pulls, len(table[1])))
                self.assertTrue(is_fraction(far))


class Told(Checked):
    def test_by_hand(self):
        self.assertEqual(self.check(HALF, ((-9, 9),))[:2], ((0,), (1, 9)))
        self.assertEqual(self.check(HALF, ((1, 9),))[:2], ((1,), (4, 9)))
        self.assertEqual(self.check(HALF, ((-9, -2),))[:2], ((-2,), (49, 9)))
        self.assertEqual(self.check(UNIT, ((-9, 9), (-9, 9)))[:2], ((0, 2), (13, 36)))
        # The nearest weights are 5/2 and 5/2; rounding either way both is farther than the one up, the other down.
        table = (("a", "b"), (row(9, 9), row(1, -1)), row(45, "1/3"))
        self.assertEqual(self.check(table, ((-9, 9), (-9, 9)))[:2], ((3, 2), (4, 9)))

    def test_no_columns_and_no_rows(self):
        self.assertEqual(self.check(((), (), ()), ())[:2], ((), (0, 1)))
        self.assertEqual(self.check(((), ((), ()), row(1, 2)), ())[:2], ((), (5, 1)))
        self.assertEqual(self.check((("a", "b"), (), ()), ((-2, 3), (4, 4)))[:2], ((-2, 4), (0, 1)))

    def test_the_first_of_several(self):
        self.assertEqual(self.check((("a",), (row(1),), row("1/2")), ((-9, 9),))[0], (0,))
        self.assertEqual(self.check((("a",), (row(-1),), row("1/2")), ((-9, 9),))[0], (-1,))
        table = (("a", "b"), (row(1, 1),), row(3))
        self.assertEqual(self.check(table, ((-9, 9), (-9, 9)))[0], (-6, 9))
        self.assertEqual(self.check(table, ((0, 5), (0, 2)))[0], (1, 2))
        table = (("a", "b"), (row(1, -1),), row("1/2"))
        self.assertEqual(self.check(table, ((-9, 9), (-9, 9)))[0], (-9, -9))
        table = (("a", "b"), (row(2, 0), row(0, 2)), row(1, 1))
        self.assertEqual(self.check(table, ((-9, 9), (-9, 9)))[0], (0, 0))

    def test_columns_nought_and_alike(self):
        table = (("a", "b", "c"), (row(0, 1, 0),), row("5/2"))
        self.assertEqual(self.check(table, ((-3, 4), (-9, 9), (2, 5)))[:2], ((-3, 2, 2), (1, 4)))
        table = (("a", "b"), (row(2, 2), row(1, 1)), row(5, 5))
        self.assertEqual(self.check(table, ((-9, 9), (0, 1)))[0], (2, 1))
        table = (("a", "b", "c", "d"), (row(0, 0, 0, 0),), row(7))
        self.assertEqual(self.check(table, ((-2, 0),) * 4)[:2], ((-2,) * 4, (49, 1)))

    def test_low_and_high_the_same(self):
        self.assertEqual(self.check(UNIT, ((3, 3), (-9, 9)))[0], (3, 2))
        self.assertEqual(self.check(UNIT, ((3, 3), (-4, -4)))[0], (3, -4))

    def test_against_all_whole_weights(self):
        chance = random.Random(1)
        for columns in range(5):
            for rows in range(6):
                for round_ in range(6):
                    table = some_table(chance, columns, rows)
                    pairs = [sorted((chance.randint(-3, 3), chance.randint(-3, 3))) for k in range(columns)]
                    self.check(table, tuple(tuple(pair) for pair in pairs))

    def test_many_small_ones(self):
        """Small numbers bring several that are as near, and pushes of nought at the bounds."""
        chance = random.Random(2)
        for round_ in range(300):
            columns, rows = chance.randrange(5), chance.randrange(4)
            lines = tuple(row(*[chance.randint(-1, 1) for k in range(columns)]) for at in range(rows))
            wish = row(*[Fraction(chance.randint(-5, 5), 2) for k in range(rows)])
            pairs = tuple(chance.choice(((0, 1), (-1, 1), (0, 0), (-1, 0), (0, 2))) for k in range(columns))
            self.check((tuple("abcd"[:columns]), lines, wish), pairs)

    def test_wide_bounds(self):
        chance = random.Random(3)
        for columns, rows, all_ways in ((2, 1, True), (2, 3, True), (3, 2, True), (4, 2, False), (4, 10, False)):
            self.check(some_table(chance, columns, rows), ((-9, 9),) * columns, all_ways)

    def test_four_columns_in_one_row(self):
        """Here nearly all weights come near the wish, and the paper is long."""
        table = (("a", "b", "c", "d"), (row("997/7", "881/6", "743/5", "571/4"),), row("1/11"))
        weights, far, paper = self.check(table, ((-9, 9),) * 4, all_ways=False)
        self.assertGreater(len(paper), 400)
        self.assertIs(wholes_shown(table, ((-9, 9),) * 4, (0, 0, 0, 0), paper), False)

    def test_the_wish_is_far_out(self):
        table = (("a", "b", "c", "d"), (row("99/7", "83/6", "71/5", "57/4"),), row(999999))
        weights, far, paper = self.check(table, ((-9, 9),) * 4, all_ways=False)
        self.assertEqual(weights, (9, 9, 9, 9))
        self.assertEqual(len(paper), 1)

    def test_twelve_figures(self):
        chance = random.Random(4)
        for columns, rows in ((3, 10), (4, 3), (4, 2)):
            table = (tuple("abcd"[:columns]), tuple(some_row(chance, columns, 12) for k in range(rows)),
                     some_row(chance, rows, 12))
            self.check(table, ((-9, 9),) * columns, all_ways=False)
            self.check(table, ((-1, 1),) * columns)

    def test_a_wish_moved_by_whole_weights(self):
        """The wish moved by so many times the columns moves the weights."""
        chance = random.Random(5)
        for round_ in range(20):
            names, rows, wish = table = (("a", "b"), tuple(some_row(chance, 2) for k in range(3)), some_row(chance, 3))
            weights, far, paper = self.check(table, ((-3, 3), (-3, 3)))
            moved = tuple(told(own(w) + sum_with(line, row(2, -5))) for line, w in zip(rows, wish))
            other = self.check((names, rows, moved), ((-1, 5), (-8, -2)))
            self.assertEqual(other[:2], ((weights[0] + 2, weights[1] - 5), far))


class Boxes(unittest.TestCase):
    def check(self, table, box, place):
        """Look at the nearest place of a box, and at where the loose weights settle on the way there."""
        question = question_of(table)
        by = common_below([number for line in (*table[1], table[2]) for number in line])
        far = nearest_bound(table, (), bounds_of(*box))[3]
        for found in (settled(question, box, place), box_nearest(question, box, place)):
            numbers, below, loose = found
            for k, (low, high) in enumerate(box):
                self.assertTrue(low * below <= numbers[k] <= high * below)
                self.assertTrue(k in loose or numbers[k] in (low * below, high * below))
        above, far_below = far_at(question, found)
        self.assertEqual(Fraction(above, far_below * by * by), own(far))

    def test_as_near_as_under_bounds(self):
        chance = random.Random(6)
        for round_ in range(300):
            columns, rows = chance.randrange(6), chance.randrange(6)
            table = some_table(chance, columns, rows)
            box = tuple(tuple(sorted((chance.randint(-2, 2), chance.randint(-2, 2)))) for k in range(columns))
            self.check(table, box, low_place(box))
            self.check(table, box, ([high for low, high in box], 1, []))

    def test_all_loose_at_first(self):
        """Several weights would leave the box: the first of them to come to a bound stops there."""
        chance = random.Random(9)
        for round_ in range(300):
            columns = chance.randint(1, 5)
            lines = tuple(some_row(chance, columns) for k in range(columns + 1))
            if rank([[own(x) for x in column] for column in turned(lines, columns)]) == columns:
                table = (tuple("abcdef"[:columns]), lines, some_row(chance, columns + 1))
                box = tuple((chance.randint(-2, 0), chance.randint(0, 2)) for k in range(columns))
                self.check(table, box, ([low + high for low, high in box], 2, list(range(columns))))

    def test_a_small_push(self):
        table = (("a",), (row(1),), row(0))
        for weight in (-1, 0, 1):
            self.check(table, ((min(0, weight), max(0, weight)),), ([weight], 1, []))


class Looked(unittest.TestCase):
    def shown(self, table, bounds, weights, paper, truth):
        self.assertEqual(holds(table, bounds, weights, paper), truth)
        self.assertIs(wholes_shown(table, bounds, weights, paper), truth)

    def setUp(self):
        # At most 0 the nearest is 1/9 far, from 1 on 4/9.
        self.paper = (("split", 0, 0, 1, 2), end(["1/3"], "1/9"), end(["-2/3"], "4/9"))

    def test_the_told_paper(self):
        self.shown(HALF, ((-9, 9),), (0,), self.paper, True)
        chance = random.Random(7)
        for round_ in range(40):
            table = some_table(chance, 3, 3)
            bounds = ((-2, 1), (0, 2), (-1, 1))
            weights, far, paper = nearest_wholes(table, bounds)
            for other in itertools.product(*[range(low - 1, high + 2) for low, high in bounds]):
                near = all(low <= weight <= high for weight, (low, high) in zip(other, bounds))
                truth = near and own_far(table, other) == own(far)
                self.assertIs(wholes_shown(table, bounds, other, paper), truth)

    def test_other_papers_that_hold(self):
        for pull, far in (("1/3", "1/9"), ("1/2", "1/12")):
            paper = (("split", 0, 0, 1, 2), end([pull], far), end(["-2/3"], "4/9"))
            self.shown(HALF, ((-9, 9),), (0,), paper, far == "1/9")
        # Of the other end any pulls do that show enough.
        for pull, far in (("-1/3", "1/3"), ("-1/2", "5/12"), ("-1", "1/3")):
            self.shown(HALF, ((-9, 9),), (0,), (*self.paper[:2], end([pull], far)), True)
        # More splits than are needed, and knots in another order.
        paper = (("split", 0, 0, 2, 1), self.paper[2], ("split", 0, -5, 3, 4), end(["16/3"], "256/9"), self.paper[1])
        self.shown(HALF, ((-9, 9),), (0,), paper, True)
        self.shown((("a",), (row(1),), row(3)), ((-9, 9),), (3,), (end([0], 0),), True)

    def test_not_nearest(self):
        for weight, truth in ((0, True), (1, False), (-1, False), (9, False)):
            self.shown(HALF, ((-9, 9),), (weight,), self.paper, truth)

    def test_beyond_the_bounds(self):
        paper = (end(["-2/3"], "4/9"),)
        self.shown(HALF, ((1, 9),), (1,), paper, True)
        self.shown(HALF, ((1, 9),), (0,), paper, False)
        self.shown(HALF, ((-9, -1),), (0,), (end(["4/3"], "16/9"),), False)
        self.shown(HALF, ((-9, -1),), (-1,), (end(["4/3"], "16/9"),), True)
        table = (("a", "b"), (row(1, 0),), row(2))
        self.shown(table, ((0, 3), (0, 3)), (2, 3), (end([0], 0),), True)
        self.shown(table, ((0, 3), (0, 3)), (2, 4), (end([0], 0),), False)
        self.shown(table, ((0, 3), (0, 3)), (2, -1), (end([0], 0),), False)

    def test_no_knots(self):
        self.shown(HALF, ((-9, 9),), (0,), (), False)
        self.shown(((), (), ()), (), (), (), False)
        self.shown(((), (), ()), (), (), (("end", (), (0, 1)),), True)

    def test_columns_that_there_are_not(self):
        for column in (-1, 1, 99):
            self.shown(HALF, ((-9, 9),), (0,), (("split", column, 0, 1, 2), *self.paper[1:]), False)
            # Also in a knot that no way comes to.
            unseen = (*self.paper, ("split", column, 0, 4, 5), *self.paper[1:])
            self.shown(HALF, ((-9, 9),), (0,), unseen, False)
        self.shown(HALF, ((-9, 9),), (0,), (*self.paper, ("split", 0, 0, 4, 5), *self.paper[1:]), True)

    def test_knots_that_there_are_not(self):
        for low, high in ((1, 3), (3, 2), (-1, 2), (1, -1), (1, 99)):
            self.shown(HALF, ((-9, 9),), (0,), (("split", 0, 0, low, high), *self.paper[1:]), False)
            unseen = (*self.paper, ("split", 0, 0, low + 3, high + 3), *self.paper[1:])
            self.shown(HALF, ((-9, 9),), (0,), unseen, False)

    def test_knots_that_are_not_greater(self):
        for low, high in ((0, 1), (1, 0)):
            self.shown(HALF, ((-9, 9),), (0,), (("split", 0, 0, low, high), *self.paper[1:]), False)
        for low, high in ((3, 4), (4, 3), (4, 0)):
            self.shown(HALF, ((-9, 9),), (0,), (*self.paper, ("split", 0, 0, low, high), *self.paper[1:]), False)

    def test_knots_that_are_named_already(self):
        paper = (end([0], 0),)
        table = (("a",), (row(1),), row(3))
        self.shown(table, ((-9, 9),), (3,), (("split", 0, 0, 1, 1), *paper), False)
        self.shown(table, ((-9, 9),), (3,), (("split", 0, 0, 1, 2), ("split", 0, 0, 2, 3), *paper * 2), False)
        self.shown(table, ((-9, 9),), (3,), (("split", 0, 0, 1, 2), ("split", 0, 0, 3, 4), *paper * 3), True)
        self.shown(table, ((-9, 9),), (3,), (*paper, ("split", 0, 0, 2, 2), *paper), False)
        self.shown(table, ((-9, 9),), (3,), (*paper, ("split", 0, 0, 3, 4), ("split", 0, 0, 5, 3), *paper * 3), False)

    def test_far_is_not_just_so(self):
        for at, fars in ((1, ("1/8", "1/10", "-1/9", 0, 9)), (2, ("1/3", "5/9", "1/9", -1, 99))):
            for far in fars:
                knots = list(self.paper)
                knots[at] = ("end", knots[at][1], row(far)[0])
                self.shown(HALF, ((-9, 9),), (0,), tuple(knots), False)

    def test_pulls_are_not_so(self):
        for at in (1, 2):
            for pull in ("1/3", "-2/3", 0, "1/2", 9):
                knots = list(self.paper)
                knots[at] = ("end", row(pull), knots[at][2])
                self.shown(HALF, ((-9, 9),), (0,), tuple(knots), knots[at] == self.paper[at])

    def test_far_is_less_than_the_weights_are(self):
        # Just what the pulls show, but less than how far the weights are.
        for pull, far in (("1/4", "5/48"), (0, 0), ("1/2", "1/12")):
            self.shown(HALF, ((-9, 9),), (0,), (self.paper[0], end([pull], far), self.paper[2]), False)
        self.shown(HALF, ((-9, 9),), (0,), (end([0], 0),), False)

    def test_bounds_along_the_way(self):
        # At a knot behind another split of the same column both count.
        paper = (("split", 0, 3, 1, 2), ("split", 0, 0, 3, 4), end(["-11/3"], "121/9"), *self.paper[1:])
        self.shown(HALF, ((-9, 9),), (0,), paper, True)
        paper = (("split", 0, 0, 1, 2), ("split", 0, 3, 3, 4), self.paper[2], self.paper[1], end([0], 5))
        self.shown(HALF, ((-9, 9),), (0,), paper, True)
        self.shown(HALF, ((-9, 0),), (0,), (self.paper[1],), True)
        self.shown(HALF, ((-9, 1),), (0,), (self.paper[1],), False)

    def test_ends_that_do_not_count(self):
        wrong = end([5], 7)
        self.shown(HALF, ((-9, 0),), (0,), (("split", 0, 0, 1, 2), self.paper[1], wrong), True)
        self.shown(HALF, ((1, 9),), (1,), (("split", 0, 0, 1, 2), wrong, self.paper[2]), True)
        self.shown(HALF, ((-9, 1),), (0,), (("split", 0, 0, 1, 2), self.paper[1], wrong), False)
        self.shown(HALF, ((0, 9),), (0,), (("split", 0, 0, 1, 2), wrong, self.paper[2]), False)
        self.shown(HALF, ((0, 0),), (0,), (("split", 0, 0, 1, 2), self.paper[1], wrong), True)

    def test_numbers_beyond_the_bounds(self):
        wrong = end([5], 7)
        for number in (9, 10, 10 ** 30):
            self.shown(HALF, ((-9, 9),), (0,), (("split", 0, number, 1, 4), *self.shifted(), wrong), True)
            self.shown(HALF, ((-9, 9),), (0,), (("split", 0, number, 4, 1), *self.shifted(), wrong), False)
        for number in (-10, -11, -10 ** 30):
            self.shown(HALF, ((-9, 9),), (0,), (("split", 0, number, 4, 1), *self.shifted(), wrong), True)
            self.shown(HALF, ((-9, 9),), (0,), (("split", 0, number, 1, 4), *self.shifted(), wrong), False)

    def shifted(self):
        return (("split", 0, 0, 2, 3), *self.paper[1:])

    def test_two_columns(self):
        chance = random.Random(8)
        truths = {True: 0, False: 0}
        for round_ in range(300):
            bounds = ((-1, 1), (-1, 2))
            table = (("a", "b"), tuple(some_row(chance, 2) for k in range(2)), some_row(chance, 2))
            weights, far, paper = nearest_wholes(table, bounds)
            knots = list(paper)
            at = chance.randrange(len(knots))
            if chance.randrange(2) and knots[at][0] == "split":
                knots[at] = (*knots[at][:2], knots[at][2] + chance.choice((-1, 1)), *knots[at][3:])
            elif chance.randrange(2) and knots[at][0] == "split":
                knots[at] = (*knots[at][:3], knots[at][4], knots[at][3])
            else:
                box = (chance.randint(-1, 1), chance.randint(-1, 2))
                weights = box if chance.randrange(2) else weights
            truth = holds(table, bounds, weights, tuple(knots))
            truths[truth] += 1
            self.shown(table, bounds, weights, tuple(knots), truth)
        self.assertGreater(min(truths.values()), 30)

    def test_of_any_fractions(self):
        most = 10 ** 300 + 7
        pull = Fraction(1, 3) + Fraction(1, most)
        far = 2 * pull * Fraction(1, 3) - pull ** 2
        self.shown(HALF, ((-9, 9),), (0,), (self.paper[0], ("end", (told(pull),), told(far)), self.paper[2]), False)
        pull = Fraction(-2, 3) + Fraction(1, most)
        far = 2 * pull * Fraction(1, 3) - pull ** 2 - 2 * pull
        self.shown(HALF, ((-9, 9),), (0,), (*self.paper[:2], ("end", (told(pull),), told(far))), True)


if __name__ == "__main__":
    unittest.main()
