"""Promises [2], [3], [30] and [31]: nearlaid/choices/few.py."""

import copy
import itertools
import random
import unittest

from nearlaid.choices.few import best_choices, choice_shown, paper_of
from nearlaid.tables.nearest import nearest
from tests.support import is_fraction, own, row, some_table

END = ("end",)
# Alone c is nearest, but a and b together reach the wish.
THREE = (("a", "b", "c"), (row(1, 0, 1), row(0, 1, 1), row(0, 0, "1/9")), row(2, 1, 0))


def far_of_columns(table, columns):
    """How far the nearest sum by these columns alone is, as Python's own fraction."""
    names, rows, wish = table
    part = (tuple(names[k] for k in columns), tuple(tuple(line[k] for k in columns) for line in rows), wish)
    return own(nearest(part)[2])


def best_by_all(table, k):
    """(columns, how far) of the first nearest choice, by going through all of them."""
    choices = list(itertools.combinations(range(len(table[0])), k))
    fars = [far_of_columns(table, choice) for choice in choices]
    at = fars.index(min(fars))
    return choices[at], fars[at]


def names_hold(paper, many):
    """Whether columns and knots are named as the document lets them."""
    named = set()
    for at, knot in enumerate(paper):
        if knot[0] == "part":
            word, column, chosen, without = knot
            if column not in range(many):
                return False
            for number in (chosen, without):
                if number <= at or number >= len(paper) or number in named:
                    return False
                named.add(number)
    return len(paper) > 0


def ends_hold(table, k, far, paper, at, chosen, left_out):
    """Whether each end behind a knot does not count, or is no less far; by going all ways."""
    knot = paper[at]
    if knot[0] == "part":
        word, column, one, other = knot
        return (ends_hold(table, k, far, paper, one, chosen | {column}, left_out)
                and ends_hold(table, k, far, paper, other, chosen, left_out | {column}))
    kept = [column for column in range(len(table[0])) if column not in left_out]
    if len(chosen) > k or len(kept) < k:
        return True
    return far_of_columns(table, kept) >= far


def holds(table, k, columns, paper):
    """Whether the paper lets the choice by, by the document's words."""
    if not names_hold(paper, len(table[0])):
        return False
    return ends_hold(table, k, far_of_columns(table, columns), paper, 0, frozenset(), frozenset())


class Choices(unittest.TestCase):
    def check(self, table):
        """Look at the choices and their papers; tell the choices."""
        before = copy.deepcopy(table)
        answer = best_choices(table)
        self.assertEqual(table, before)
        self.assertEqual(best_choices(table), answer)
        self.assertIsInstance(answer, tuple)
        self.assertEqual(len(answer), len(table[0]) + 1)
        for k, pair in enumerate(answer):
            self.assertIsInstance(pair, tuple)
            columns, far = pair
            self.assertIsInstance(columns, tuple)
            self.assertTrue(is_fraction(far))
            self.assertEqual((columns, own(far)), best_by_all(table, k))
            self.check_paper(table, k, columns)
        return answer

    def check_paper(self, table, k, columns):
        paper = paper_of(table, k)
        self.assertEqual(paper_of(table, k), paper)
        self.assertIsInstance(paper, tuple)
        self.assertLessEqual(len(paper), 400)
        for knot in paper:
            self.assertIsInstance(knot, tuple)
            self.assertTrue(knot == END or knot[0] == "part" and len(knot) == 4)
        self.assertTrue(holds(table, k, columns, paper))
        self.assertIs(choice_shown(table, k, columns, paper), True)
        # The paper lets by just the choices that are as near.
        far = far_of_columns(table, columns)
        for other in itertools.combinations(range(len(table[0])), k):
            self.assertIs(choice_shown(table, k, other, paper), far_of_columns(table, other) == far)

    def test_by_hand(self):
        self.assertEqual([columns for columns, far in self.check(THREE)], [(), (2,), (0, 1), (0, 1, 2)])
        self.assertEqual([far for columns, far in best_choices(THREE)], list(row(5, "86/163", 0, 0)))

    def test_the_first_of_several(self):
        table = (("a", "b", "c", "d"), (row(0, 1, 0, 1), row(1, 0, 1, 0)), row(1, 1))
        self.assertEqual([columns for columns, far in self.check(table)], [(), (0,), (0, 1), (0, 1, 2), (0, 1, 2, 3)])
        table = (("a", "b", "c"), (row(0, 1, 1),), row(1))
        self.assertEqual([columns for columns, far in self.check(table)], [(), (1,), (0, 1), (0, 1, 2)])
        table = (("a", "b", "c"), (row(0, 0, 1),), row(1))
        self.assertEqual([columns for columns, far in self.check(table)], [(), (2,), (0, 2), (0, 1, 2)])

    def test_columns_nought_and_alike(self):
        table = (("a", "b"), (row(0, 0), row(0, 0)), row(1, 2))
        self.assertEqual(self.check(table), (((), (5, 1)), ((0,), (5, 1)), ((0, 1), (5, 1))))
        table = (("a", "b"), (row(1, 1), row(2, 2)), row(5, 5))
        self.assertEqual(self.check(table), (((), (50, 1)), ((0,), (5, 1)), ((0, 1), (5, 1))))

    def test_no_columns_and_no_rows(self):
        self.assertEqual(self.check(((), (), ())), (((), (0, 1)),))
        self.assertEqual(self.check(((), ((), ()), row(1, 2))), (((), (5, 1)),))
        self.assertEqual(self.check((("a", "b"), (), ())), (((), (0, 1)), ((0,), (0, 1)), ((0, 1), (0, 1))))

    def test_of_all_sizes(self):
        chance = random.Random(1)
        for columns in range(7):
            for rows in (1, 2, 4, 7, 10):
                self.check(some_table(chance, columns, rows))

    def test_many_small_ones(self):
        chance = random.Random(2)
        for round_ in range(60):
            columns, rows = chance.randrange(5), chance.randrange(4)
            lines = tuple(row(*[chance.randint(-1, 1) for k in range(columns)]) for at in range(rows))
            self.check((tuple("abcdef"[:columns]), lines, row(*[chance.randint(-2, 2) for k in range(rows)])))

    def test_twelve_figures(self):
        table = some_table(random.Random(3), 5, 6, 12)
        answer = best_choices(table)
        for k in (1, 3):
            self.assertEqual((answer[k][0], own(answer[k][1])), best_by_all(table, k))
            self.assertIs(choice_shown(table, k, answer[k][0], paper_of(table, k)), True)


class Looked(unittest.TestCase):
    def shown(self, table, k, columns, paper, truth):
        self.assertEqual(holds(table, k, columns, paper), truth)
        self.assertIs(choice_shown(table, k, columns, paper), truth)

    def test_all_parted(self):
        paper = (("part", 0, 1, 2), ("part", 1, 3, 4), ("part", 1, 5, 6), *[("part", 2, 7 + 2 * k, 8 + 2 * k)
                 for k in range(4)], *[END] * 8)
        for k, columns in enumerate(((), (2,), (0, 1), (0, 1, 2))):
            self.shown(THREE, k, columns, paper, True)
        for columns in ((0,), (1,)):
            self.shown(THREE, 1, columns, paper, False)
        for columns in ((0, 2), (1, 2)):
            self.shown(THREE, 2, columns, paper, False)

    def test_an_end_alone(self):
        self.shown(THREE, 3, (0, 1, 2), (END,), True)
        self.shown(THREE, 2, (0, 1), (END,), True)
        self.shown(THREE, 1, (2,), (END,), False)
        self.shown(((), ((),), row(3)), 0, (), (END,), True)

    def test_knots_that_no_way_comes_to(self):
        self.shown(THREE, 2, (0, 1), (END, END, END), True)
        self.shown(THREE, 2, (0, 1), (END, ("part", 0, 2, 3), END, END), True)
        self.shown(THREE, 1, (2,), (END, ("part", 0, 2, 3), END, END), False)

    def test_another_order_of_columns_and_knots(self):
        # Without c, a or b alone are no nearer; with c chosen no other may be.
        for paper in (
            (("part", 2, 2, 1), ("part", 1, 3, 4), ("part", 0, 6, 5), END, END, ("part", 1, 7, 8), END, END, END),
            (("part", 2, 1, 2), ("part", 0, 3, 4), ("part", 0, 5, 6), END, ("part", 1, 7, 8), END, END, END, END),
        ):
            self.shown(THREE, 1, (2,), paper, holds(THREE, 1, (2,), paper))
        paper = (("part", 2, 2, 1), ("part", 1, 3, 4), ("part", 0, 6, 5), ("part", 0, 9, 10), END,
                 ("part", 1, 7, 8), END, END, END, END, END)
        self.shown(THREE, 1, (2,), paper, True)
        self.shown(THREE, 1, (1,), paper, False)

    def test_no_knots(self):
        self.shown(THREE, 2, (0, 1), (), False)
        self.shown(((), (), ()), 0, (), (), False)

    def test_columns_that_there_are_not(self):
        for column in (-1, 3, 99):
            self.shown(THREE, 2, (0, 1), (("part", column, 1, 2), END, END), False)
            self.shown(THREE, 2, (0, 1), (END, ("part", column, 2, 3), END, END), False)
        self.shown(THREE, 2, (0, 1), (("part", 2, 1, 2), END, END), True)
        self.shown(((), (), ()), 0, (), (("part", 0, 1, 2), END, END), False)

    def test_knots_that_there_are_not(self):
        for numbers in ((1, 3), (3, 1), (-1, 2), (1, -1), (1, 99), (99, 100)):
            self.shown(THREE, 2, (0, 1), (("part", 0, *numbers), END, END), False)
            self.shown(THREE, 2, (0, 1), (END, ("part", 0, numbers[0] + 1, numbers[1] + 1), END, END), False)

    def test_knots_that_are_not_greater(self):
        for numbers in ((0, 1), (1, 0)):
            self.shown(THREE, 2, (0, 1), (("part", 0, *numbers), END), False)
        for numbers in ((1, 3), (3, 1), (3, 0)):
            self.shown(THREE, 2, (0, 1), (("part", 0, 2, 4), ("part", 0, *numbers), END, END, END), False)
            self.shown(THREE, 2, (0, 1), (END, ("part", 0, *numbers), END, END, END), False)

    def test_knots_that_are_named_already(self):
        self.shown(THREE, 2, (0, 1), (("part", 0, 1, 1), END), False)
        self.shown(THREE, 2, (0, 1), (END, ("part", 0, 2, 2), END), False)
        self.shown(THREE, 2, (0, 1), (("part", 0, 1, 2), ("part", 1, 2, 3), END, END), False)
        self.shown(THREE, 2, (0, 1), (("part", 0, 1, 2), ("part", 1, 3, 4), ("part", 1, 4, 5), END, END, END), False)
        self.shown(THREE, 2, (0, 1), (("part", 0, 1, 2), ("part", 1, 3, 4), ("part", 1, 6, 5), *[END] * 4), True)
        self.shown(THREE, 2, (0, 1), (("part", 0, 1, 2), ("part", 1, 3, 4), ("part", 1, 5, 3), *[END] * 3), False)
        self.shown(THREE, 2, (0, 1), (("part", 0, 2, 1), ("part", 1, 4, 3), ("part", 1, 4, 5), *[END] * 3), False)
        # Also where no way comes to the knots that name it.
        self.shown(THREE, 2, (0, 1), (END, ("part", 0, 3, 4), ("part", 1, 4, 5), END, END, END), False)
        self.shown(THREE, 2, (0, 1), (("part", 0, 1, 2), END, END, ("part", 0, 4, 5), END, END), True)

    def test_chosen_or_left_out_again(self):
        # To choose a again changes nothing; to leave it out then leaves it out, though it is chosen.
        again = (("part", 0, 1, 2), ("part", 0, 3, 4), ("part", 0, 5, 6), *[END] * 4)
        for k, columns in ((1, (2,)), (1, (0,)), (2, (0, 1)), (2, (1, 2)), (3, (0, 1, 2))):
            self.shown(THREE, k, columns, again, holds(THREE, k, columns, again))
        self.shown(THREE, 2, (0, 1), again, True)

    def test_a_column_that_is_both(self):
        # Left out and chosen, the column counts with the chosen ones, but the sum is without it.
        table = (("a", "b"), (row(1, 0), row(0, 1)), row(3, 4))
        both = (("part", 0, 1, 2), ("part", 0, 3, 4), ("part", 0, 5, 6), *[END] * 4)
        # The end with a chosen, then left out: by b alone it is 9 far; with a chosen only: 0 far.
        self.shown(table, 1, (1,), both, False)
        paper = (("part", 0, 1, 2), ("part", 0, 3, 4), ("part", 0, 5, 6), ("part", 1, 7, 8), ("part", 1, 9, 10),
                 END, END, END, END, END, END)
        # By ways: a chosen twice, with b two are chosen, without b a alone is 16 far; and so on.
        for columns in ((0,), (1,)):
            self.shown(table, 1, columns, paper, holds(table, 1, columns, paper))
        self.shown(table, 1, (1,), paper, True)
        self.shown(table, 1, (0,), paper, False)
        # Chosen and left out, it counts as chosen: with b there are two then, too many for k 1.
        paper = (("part", 0, 2, 1), ("part", 0, 3, 4), ("part", 1, 5, 6), ("part", 1, 7, 8), END, *[END] * 4)
        self.shown(table, 1, (1,), paper, True)

    def test_ends_that_do_not_count(self):
        table = (("a", "b"), (row(1, 0), row(0, 1)), row(3, 4))
        # With both chosen the sum is reached, which is less far than any one: but that are two.
        paper = (("part", 0, 1, 2), ("part", 1, 3, 4), END, END, END)
        self.shown(table, 1, (1,), paper, True)
        self.shown(table, 1, (0,), paper, False)
        self.shown(table, 2, (0, 1), paper, True)
        # For k 2 the ends that leave one out do not count; for k 0 those that choose one do not.
        self.shown(table, 0, (), paper, False)
        self.shown(table, 0, (), (*paper[:2], ("part", 1, 5, 6), END, END, END, END), True)

    def test_a_choice_that_is_not_nearest(self):
        for k, columns, truth in ((1, (0,), False), (1, (1,), False), (1, (2,), True), (2, (0, 2), False)):
            self.shown(THREE, k, columns, paper_of(THREE, k), truth)
        table = (("a", "b", "c"), (row(1, 0, 0), row(0, 1, 0), row(0, 0, 1)), row(1, 2, 3))
        for columns in ((0, 1), (0, 2)):
            self.shown(table, 2, columns, paper_of(table, 2), False)
        self.shown(table, 2, (1, 2), paper_of(table, 2), True)

    def test_the_paper_of_another_k(self):
        table = (("a", "b", "c"), (row(1, 0, 0), row(0, 1, 0), row(0, 0, 1)), row(1, 2, 3))
        for k in range(4):
            for other in range(4):
                paper = paper_of(table, other)
                columns = best_choices(table)[k][0]
                self.shown(table, k, columns, paper, holds(table, k, columns, paper))

    def test_some_papers(self):
        chance = random.Random(4)
        truths = {True: 0, False: 0}
        for round_ in range(400):
            table = some_table(chance, 3, 3)
            k = chance.randrange(4)
            columns = chance.choice(list(itertools.combinations(range(3), k)))
            paper = self.some_paper(chance)
            truth = holds(table, k, columns, paper)
            truths[truth] += 1
            self.shown(table, k, columns, paper, truth)
        self.assertGreater(min(truths.values()), 40)

    def some_paper(self, chance):
        """A paper whose knots and columns are rightly named, but for one time in eight."""
        many = chance.choice((1, 3, 5, 9, 13))
        free = list(range(1, many))
        knots = []
        for at in range(many):
            later = [number for number in free if number > at]
            if len(later) >= 2 and (at == 0 or chance.randrange(5)):
                pair = later[:2] if chance.randrange(2) else chance.sample(later, 2)
                free = [number for number in free if number not in pair]
                knots.append(("part", chance.randrange(3), *pair))
            else:
                knots.append(END)
        if chance.randrange(8) == 0:
            knots[chance.randrange(many)] = ("part", chance.randint(0, 3), *chance.sample(range(many + 1), 2))
        return tuple(knots)

    def test_four_hundred_knots(self):
        # A long chain: each knot chooses a again, or leaves it out and ends.
        paper = tuple(knot for at in range(0, 398, 2) for knot in (("part", 0, at + 2, at + 1), END)) + (END,)
        self.assertEqual(len(paper), 399)
        self.shown(THREE, 2, (0, 1), paper, True)
        self.shown(THREE, 1, (2,), paper, False)
        table = some_table(random.Random(5), 6, 6)
        chain = tuple(knot for at in range(0, 398, 2) for knot in (("part", at // 2 % 6, at + 2, at + 1), END)) + (END,)
        for k, (columns, far) in enumerate(best_choices(table)):
            self.shown(table, k, columns, chain, holds(table, k, columns, chain))


if __name__ == "__main__":
    unittest.main()
