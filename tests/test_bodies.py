"""Promises [2], [3], [34] and [35]: nearlaid/bodies/bodies.py."""

import copy
import random
import unittest
from fractions import Fraction

from nearlaid.bodies.bodies import nearest_point, point_shown, two_bodies, two_shown
from tests.support import changed, is_fraction, is_row, own, row, some_row, told, turned, sum_with

SQUARE = (row(0, 0), row(2, 0), row(0, 2), row(2, 2))
TRIANGLE = (row(0, 0), row(4, 0), row(0, 4))


def mixed_point(body, weights):
    """The body's point by the weights."""
    return tuple(told(sum_with(numbers, weights)) for numbers in turned(body, len(body[0])))


def let(weights):
    """Whether weights are none below 0, with the sum 1."""
    return min(own(w) for w in weights) >= 0 and sum(own(w) for w in weights) == 1


def point_holds(body, point, weights):
    """Whether the weights are of the nearest point, by the document's words."""
    if not let(weights):
        return False
    near = mixed_point(body, weights)
    away = [own(x) - own(y) for x, y in zip(near, point)]
    return all(sum(a * (own(x) - own(y)) for a, x, y in zip(away, corner, near)) >= 0 for corner in body)


def two_hold(one, other, answer):
    """Whether what is told of two bodies holds, by the document's words."""
    if answer[0] == "met":
        word, weights, others = answer
        return let(weights) and let(others) and mixed_point(one, weights) == mixed_point(other, others)
    word, line, number = answer
    return (all(sum_with(line, point) < own(number) for point in one)
            and all(sum_with(line, point) > own(number) for point in other))


def some_body(chance, points, numbers, figures=1):
    """A body of so many points, some of them alike or amid others."""
    found = []
    for k in range(points):
        kind = chance.randrange(6)
        if kind == 0 and found:
            found.append(chance.choice(found))
        elif kind == 1 and len(found) > 1:
            one, other = chance.sample(found, 2)
            found.append(mixed_point((one, other), row("1/3", "2/3")))
        else:
            found.append(some_row(chance, numbers, figures))
    return tuple(found)


def some_weights(chance, many):
    """Weights of a body's point."""
    numbers = [chance.choice((0, 1, 2, 3)) for k in range(many)]
    numbers[chance.randrange(many)] += 1
    return tuple(told(Fraction(x, sum(numbers))) for x in numbers)


class Points(unittest.TestCase):
    def check(self, body, point):
        """Look at what is told in all parts; tell it."""
        before = copy.deepcopy((body, point))
        answer = nearest_point(body, point)
        self.assertEqual((body, point), before)
        self.assertEqual(nearest_point(body, point), answer)
        self.assertIsInstance(answer, tuple)
        weights, near, far = answer
        self.assertTrue(is_row(weights, len(body)))
        self.assertTrue(is_row(near, len(point)))
        self.assertTrue(is_fraction(far))
        self.assertEqual(near, mixed_point(body, weights))
        self.assertEqual(own(far), sum((own(x) - own(y)) ** 2 for x, y in zip(near, point)))
        self.assertTrue(point_holds(body, point, weights))
        self.assertIs(point_shown(body, point, weights), True)
        for k in range(len(body)):
            other = changed(weights, k, (1, 3))
            self.assertIs(point_shown(body, point, other), False)
        return answer

    def test_outside(self):
        self.assertEqual(self.check(SQUARE, row(1, 5))[1:], (row(1, 2), (9, 1)))
        self.assertEqual(self.check(SQUARE, row(5, 6))[1:], (row(2, 2), (25, 1)))
        self.assertEqual(self.check(TRIANGLE, row(4, 4))[1:], (row(2, 2), (8, 1)))
        self.assertEqual(self.check(TRIANGLE, row(-1, -1))[1:], (row(0, 0), (2, 1)))

    def test_of_the_body(self):
        for point in (row(1, 1), row(0, 0), row(2, "1/3"), row("1/7", "1/9")):
            self.assertEqual(self.check(SQUARE, point)[1:], (point, (0, 1)))

    def test_amid_two(self):
        self.assertEqual(self.check((row(0), row(4)), row(1)), (row("3/4", "1/4"), row(1), (0, 1)))
        self.assertEqual(self.check((row(0, 0), row(4, 0)), row(1, 3))[1:], (row(1, 0), (9, 1)))

    def test_points_alike(self):
        self.assertEqual(self.check((row(1, 1),) * 3, row(4, 5))[1:], (row(1, 1), (25, 1)))
        self.assertEqual(self.check((row(0, 0), row(2, 0), row(2, 0)), row(9, 1))[1:], (row(2, 0), (50, 1)))

    def test_one_point_alone(self):
        self.assertEqual(self.check((row(3),), row("1/2")), (row(1), row(3), (25, 4)))
        self.assertEqual(self.check((row(1, 2, 3, 4, 5, 6),), row(1, 2, 3, 4, 5, 6))[2], (0, 1))

    def test_of_all_sizes(self):
        chance = random.Random(1)
        for numbers in range(1, 7):
            for points in range(1, 9):
                body = some_body(chance, points, numbers)
                self.check(body, some_row(chance, numbers))
                inside = mixed_point(body, some_weights(chance, points))
                self.assertEqual(self.check(body, inside)[1:], (inside, (0, 1)))

    def test_twelve_figures(self):
        chance = random.Random(2)
        self.check(some_body(chance, 8, 6, 12), some_row(chance, 6, 12))

    def test_against_many_others(self):
        """No other point of the body is nearer."""
        chance = random.Random(3)
        for round_ in range(30):
            body, point = some_body(chance, 5, 3), some_row(chance, 3)
            far = own(self.check(body, point)[2])
            for other in range(20):
                near = mixed_point(body, some_weights(chance, 5))
                self.assertGreaterEqual(sum((own(x) - own(y)) ** 2 for x, y in zip(near, point)), far)

    def test_told_things_handed_on(self):
        chance = random.Random(4)
        body = some_body(chance, 4, 3, 3)
        weights, near, far = self.check(body, some_row(chance, 3, 3))
        self.check((*body, near), row(9, 9, 9))
        self.assertEqual(self.check(body, near)[2], (0, 1))


class PointsLooked(unittest.TestCase):
    def shown(self, body, point, weights, truth):
        self.assertEqual(point_holds(body, point, weights), truth)
        self.assertIs(point_shown(body, point, weights), truth)

    def test_others_that_hold(self):
        # The midst of the square has many weights.
        for weights in (row("1/4", "1/4", "1/4", "1/4"), row("1/2", 0, 0, "1/2"), row(0, "1/2", "1/2", 0)):
            self.shown(SQUARE, row(1, 1), weights, True)
        self.shown((row(1, 1), row(1, 1)), row(9, 9), row("1/3", "2/3"), True)

    def test_weights_below_0(self):
        # The point would be the nearest, but for the sign of a weight.
        self.shown(SQUARE, row(1, 1), row("3/4", "-1/4", "-1/4", "3/4"), False)
        self.shown((row(0), row(1)), row(2), row(-1, 2), False)
        self.shown((row(0), row(1)), row(2), row(0, 1), True)
        self.shown((row(1), row(1), row(0)), row(2), row(2, -1, 0), False)

    def test_another_sum(self):
        for weights in (row(1, 1), row("1/2", "1/4"), row(0, 0), row(0, "101/100")):
            self.shown((row(0), row(0)), row(1), weights, False)
        self.shown((row(0), row(0)), row(1), row("1/2", "1/2"), True)
        self.shown((row(2),), row(4), row(2), False)

    def test_not_nearest(self):
        for weights in (row(1, 0, 0), row("1/2", "1/2", 0), row(0, "1/3", "2/3"), row("1/99", "49/99", "49/99")):
            self.shown(TRIANGLE, row(4, 4), weights, False)
        self.shown(TRIANGLE, row(4, 4), row(0, "1/2", "1/2"), True)

    def test_other_lengths(self):
        self.assertIs(point_shown(SQUARE, row(0, 0), row(1)), False)
        self.assertIs(point_shown(SQUARE, row(0, 0), row(1, 0, 0, 0, 0)), False)
        self.assertIs(two_shown(SQUARE, SQUARE, ("met", row(1), row(1, 0, 0, 0))), False)
        self.assertIs(two_shown(SQUARE, SQUARE, ("met", row(1, 0, 0, 0), row(1, 0, 0))), False)

    def test_of_any_fractions(self):
        most = 10 ** 300 + 7
        self.shown((row(0), row(0)), row(1), ((1, most), (most - 1, most)), True)
        self.shown((row(0), row(1)), row(1), ((1, most), (most - 1, most)), False)
        self.shown((row(0), row(0)), row(1), ((-1, most), (most + 1, most)), False)

    def test_some(self):
        chance = random.Random(5)
        for round_ in range(200):
            body, point = some_body(chance, 3, 2), some_row(chance, 2)
            weights = some_weights(chance, 3) if chance.randrange(3) else nearest_point(body, point)[0]
            if chance.randrange(5) == 0:
                weights = changed(weights, chance.randrange(3), (-1, 2))
            self.shown(body, point, weights, point_holds(body, point, weights))


class Two(unittest.TestCase):
    def check(self, one, other, word=None):
        """Look at what is told in all parts; tell its word."""
        before = copy.deepcopy((one, other))
        answer = two_bodies(one, other)
        self.assertEqual((one, other), before)
        self.assertEqual(two_bodies(one, other), answer)
        self.assertIsInstance(answer, tuple)
        self.assertEqual(len(answer), 3)
        if answer[0] == "met":
            self.assertTrue(is_row(answer[1], len(one)))
            self.assertTrue(is_row(answer[2], len(other)))
        else:
            self.assertEqual(answer[0], "parted")
            self.assertTrue(is_row(answer[1], len(one[0])))
            self.assertTrue(is_fraction(answer[2]))
        self.assertTrue(two_hold(one, other, answer))
        self.assertIs(two_shown(one, other, answer), True)
        if word is not None:
            self.assertEqual(answer[0], word)
            turned_about = two_bodies(other, one)
            self.assertEqual(turned_about[0], word)
            self.assertTrue(two_hold(other, one, turned_about))
        return answer[0]

    def test_one_point(self):
        self.check(SQUARE, (row(2, 2), row(5, 7)), "met")
        self.check((row(0), row(1)), (row(1), row(2)), "met")
        self.check((row(3, 4),), (row(3, 4),), "met")
        self.check(SQUARE, (row(0, 3), row(3, 0), row(9, 9)), "met")
        self.check(SQUARE, (row(0, 4), row(4, 0), row(9, 9)), "met")

    def test_along_a_side(self):
        self.check(SQUARE, (row(2, 1), row(2, 5), row(7, 7)), "met")
        self.check(SQUARE, (row(0, 2), row(2, 2), row(1, 3)), "met")
        self.check((row(0, 0), row(4, 0)), (row(1, 0), row(9, 0)), "met")

    def test_inside_one_another(self):
        self.check(TRIANGLE, (row(1, 1), row("3/2", 1)), "met")
        self.check(TRIANGLE, (row(1, 1),), "met")
        self.check(SQUARE, SQUARE, "met")

    def test_parted_narrowly(self):
        for gap in ("1/1000000", "1/999999999999"):
            more = told(2 + Fraction(gap))
            self.check(SQUARE, ((more, (0, 1)), (more, (2, 1))), "parted")
            self.check(SQUARE, ((more, (2, 1)),), "parted")
            self.check((row(0),), ((row(gap)[0],),), "parted")
        self.check(SQUARE, (row(0, "4000001/1000000"), row("4000001/1000000", 0), row(9, 9)), "parted")

    def test_parted(self):
        self.check((row(0), row(1)), (row(2), row(3)), "parted")
        self.check((row(0, 0),), (row(0, 1),), "parted")
        self.check(TRIANGLE, (row(3, 3), row(4, 1)), "parted")
        self.check((row(1, 2, 3, 4, 5, 6),), (row(1, 2, 3, 4, 5, 7),), "parted")
        self.check((row(0, 0), row(2, 2)), (row(0, 1), row(1, 2)), "parted")

    def test_of_all_sizes(self):
        chance = random.Random(6)
        words = {"met": 0, "parted": 0}
        for numbers in range(1, 7):
            for points in range(1, 9):
                for others in (1, 3, 8):
                    one, other = some_body(chance, points, numbers), some_body(chance, others, numbers)
                    words[self.check(one, other)] += 1
                    self.check(one, (mixed_point(one, some_weights(chance, points)), *other[1:]), "met")
        self.assertGreater(min(words.values()), 20)

    def test_twelve_figures(self):
        chance = random.Random(7)
        for round_ in range(3):
            self.check(some_body(chance, 8, 6, 12), some_body(chance, 8, 6, 12))


class TwoLooked(unittest.TestCase):
    def shown(self, one, other, answer, truth):
        self.assertEqual(two_hold(one, other, answer), truth)
        self.assertIs(two_shown(one, other, answer), truth)

    def test_others_that_hold(self):
        for weights in (row("1/4", "1/4", "1/4", "1/4"), row("1/2", 0, 0, "1/2"), row(0, "1/2", "1/2", 0)):
            self.shown(SQUARE, (row(1, 1),), ("met", weights, row(1)), True)
        for line, number in ((row(1, 0), 3), (row(1, 0), "5/2"), (row(2, 1), "13/2"), (row("1/9", 0), "1/3")):
            self.shown(SQUARE, (row(4, 0), row(4, 1)), ("parted", line, row(number)[0]), True)

    def test_a_weight_below_0(self):
        weights = row("3/4", "-1/4", "-1/4", "3/4")
        self.shown(SQUARE, (row(1, 1),), ("met", weights, row(1)), False)
        self.shown((row(1, 1),), SQUARE, ("met", row(1), weights), False)

    def test_another_sum(self):
        self.shown((row(0), row(0)), (row(0),), ("met", row("1/2", "1/2"), row(1)), True)
        for weights in (row("1/2", "1/3"), row(1, 1), row(0, 0)):
            self.shown((row(0), row(0)), (row(0),), ("met", weights, row(1)), False)
            self.shown((row(0),), (row(0), row(0)), ("met", row(1), weights), False)

    def test_not_the_same_point(self):
        self.shown(SQUARE, SQUARE, ("met", row(1, 0, 0, 0), row(1, 0, 0, 0)), True)
        self.shown(SQUARE, SQUARE, ("met", row(1, 0, 0, 0), row("99/100", "1/100", 0, 0)), False)
        self.shown((row(0, 1),), (row(0, 2),), ("met", row(1), row(1)), False)

    def test_a_number_just_at_a_point(self):
        one, other = (row(0), row(1)), (row(2), row(3))
        for number, truth in ((1, False), (2, False), ("3/2", True), ("1001/1000", True), ("1999/1000", True),
                              (0, False), (3, False), ("1/2", False), ("5/2", False)):
            self.shown(one, other, ("parted", row(1), row(number)[0]), truth)

    def test_the_wrong_side(self):
        one, other = (row(0), row(1)), (row(2), row(3))
        self.shown(one, other, ("parted", row(-1), row("-3/2")[0]), False)
        self.shown(other, one, ("parted", row(-1), row("-3/2")[0]), True)
        self.shown(other, one, ("parted", row(1), row("3/2")[0]), False)
        self.shown(one, other, ("parted", row(0), row(0)[0]), False)

    def test_never_both(self):
        chance = random.Random(8)
        for round_ in range(100):
            one, other = some_body(chance, 3, 2), some_body(chance, 3, 2)
            word = two_bodies(one, other)[0]
            weights = ("met", some_weights(chance, 3), some_weights(chance, 3))
            line = ("parted", some_row(chance, 2), some_row(chance, 1)[0])
            self.shown(one, other, weights, two_hold(one, other, weights))
            self.shown(one, other, line, two_hold(one, other, line))
            if word == "met":
                self.assertIs(two_shown(one, other, line), False)
            else:
                self.assertIs(two_shown(one, other, weights), False)


if __name__ == "__main__":
    unittest.main()
