"""Promises [2], [3], [19] and [20]: nearlaid/kept.py."""

import copy
import random
import unittest

from nearlaid.errors import NearError, NoName, NoRow
from nearlaid.kept import Kept
from nearlaid.tables.nearest import nearest
from nearlaid.tables.texts import left_of
from tests.support import is_fraction, own, row, some_fraction, some_row, some_table, sum_with


def kept_of(table):
    """A kept table with these columns and rows, numbered from 0 on."""
    names, rows, wish = table
    kept = Kept(names)
    for line, wished in zip(rows, wish):
        kept.put_row(line, wished)
    return kept


def without(table, at):
    """The table without one of its rows."""
    names, rows, wish = table
    return (names, rows[:at] + rows[at + 1:], wish[:at] + wish[at + 1:])


class Told(unittest.TestCase):
    def test_empty(self):
        kept = Kept(())
        self.assertEqual(kept.table(), ((), (), ()))
        self.assertEqual(kept.numbers(), [])
        self.assertEqual(kept.nearest(), ((), (), (0, 1)))
        kept = Kept(("a", "b"))
        self.assertEqual(kept.table(), (("a", "b"), (), ()))
        self.assertEqual(kept.nearest(), (row(0, 0), (), (0, 1)))

    def test_rows_put_in(self):
        kept = Kept(("a", "b"))
        self.assertEqual(kept.put_row(row(1, 2), (3, 1)), 0)
        self.assertEqual(kept.put_row(row(4, 5), (6, 1)), 1)
        self.assertEqual(kept.put_row(row(1, 2), (3, 1)), 2)
        self.assertEqual(kept.numbers(), [0, 1, 2])
        self.assertEqual(kept.table(), (("a", "b"), (row(1, 2), row(4, 5), row(1, 2)), row(3, 6, 3)))
        self.assertEqual(kept.nearest(), nearest(kept.table()))

    def test_rows_taken_out(self):
        kept = kept_of((("a",), (row(1), row(2), row(3)), row(4, 5, 6)))
        self.assertIsNone(kept.take_row(1))
        self.assertEqual(kept.numbers(), [0, 2])
        self.assertEqual(kept.table(), (("a",), (row(1), row(3)), row(4, 6)))
        self.assertEqual(kept.put_row(row(7), (8, 1)), 3)
        self.assertEqual(kept.numbers(), [0, 2, 3])
        self.assertEqual(kept.table(), (("a",), (row(1), row(3), row(7)), row(4, 6, 8)))

    def test_numbers_are_never_given_again(self):
        kept = Kept(())
        for number in range(30):
            self.assertEqual(kept.put_row((), (number, 1)), number)
            kept.take_row(number)
        self.assertEqual(kept.numbers(), [])
        self.assertEqual(kept.put_row((), (5, 1)), 30)
        # Also not that of the last row, taken out again at once.
        self.assertEqual(kept.put_row((), (6, 1)), 31)
        kept.take_row(31)
        self.assertEqual(kept.put_row((), (7, 1)), 32)
        self.assertEqual(kept.numbers(), [30, 32])
        self.assertEqual(kept.table(), ((), ((), ()), row(5, 7)))

    def test_wishes_changed(self):
        kept = kept_of((("a",), (row(1), row(2), row(3)), row(4, 5, 6)))
        kept.take_row(0)
        self.assertIsNone(kept.change_wish(1, (-1, 2)))
        self.assertEqual(kept.table(), (("a",), (row(2), row(3)), row("-1/2", 6)))
        self.assertEqual(kept.numbers(), [1, 2])
        self.assertEqual(kept.nearest(), nearest((("a",), (row(2), row(3)), row("-1/2", 6))))

    def test_columns_put_in(self):
        kept = kept_of((("b",), (row(1), row(2), row(3)), row(4, 5, 6)))
        kept.take_row(1)
        self.assertIsNone(kept.put_column("a", row("1/2", "1/3")))
        self.assertEqual(kept.table(), (("b", "a"), (row(1, "1/2"), row(3, "1/3")), row(4, 6)))
        kept.put_row(row(7, 8), (9, 1))
        kept.put_column("ab", row(0, 0, 1))
        table = (("b", "a", "ab"), (row(1, "1/2", 0), row(3, "1/3", 0), row(7, 8, 1)), row(4, 6, 9))
        self.assertEqual(kept.table(), table)
        self.assertEqual(kept.numbers(), [0, 2, 3])
        self.assertEqual(kept.nearest(), nearest(table))

    def test_columns_put_in_without_rows(self):
        kept = Kept(())
        kept.put_column("a", ())
        kept.put_column("b", ())
        self.assertEqual(kept.table(), (("a", "b"), (), ()))
        self.assertEqual(kept.put_row(row(1, 2), (3, 1)), 0)

    def test_columns_taken_out(self):
        table = (("a", "b", "c"), (row(1, 2, 3), row(4, 5, 6)), row(7, 8))
        for name, names, rows in (
            ("a", ("b", "c"), (row(2, 3), row(5, 6))),
            ("b", ("a", "c"), (row(1, 3), row(4, 6))),
            ("c", ("a", "b"), (row(1, 2), row(4, 5))),
        ):
            kept = kept_of(table)
            self.assertIsNone(kept.take_column(name))
            self.assertEqual(kept.table(), (names, rows, row(7, 8)))
            # A name that was taken out may come again, behind the others.
            kept.put_column(name, row(-1, -2))
            self.assertEqual(kept.table()[0], (*names, name))
            self.assertEqual(kept.table()[1], tuple((*line, x) for line, x in zip(rows, row(-1, -2))))
        kept = kept_of((("a",), (row(1), row(4)), row(7, 8)))
        kept.take_column("a")
        self.assertEqual(kept.table(), ((), ((), ()), row(7, 8)))
        self.assertEqual(kept.nearest(), ((), row(7, 8), (113, 1)))

    def test_kinds(self):
        kept = kept_of((("a",), (row(1), row(2)), row(3, 5)))
        self.assertIs(type(kept.put_row(row(1), (1, 1))), int)
        self.assertIs(type(kept.numbers()), list)
        self.assertIs(type(kept.table()), tuple)
        self.assertIs(type(kept.table()[1]), tuple)
        self.assertTrue(is_fraction(kept.share(0)))
        self.assertTrue(is_fraction(kept.out(0)))


class Refused(unittest.TestCase):
    def check(self, error, kept, act, *arguments):
        """The refusal is given, and nothing changes by it."""
        before = (kept.table(), kept.numbers(), kept.nearest())
        with self.assertRaises(error) as caught:
            getattr(kept, act)(*arguments)
        self.assertIsInstance(caught.exception, NearError)
        self.assertIs(type(caught.exception), error)
        self.assertEqual((kept.table(), kept.numbers(), kept.nearest()), before)

    def test_rows_that_there_are_not(self):
        kept = kept_of((("a",), (row(1), row(2), row(3)), row(4, 5, 6)))
        kept.take_row(1)
        for number in (1, 3, 4, -1, -2, 99, 10 ** 12):
            self.check(NoRow, kept, "take_row", number)
            self.check(NoRow, kept, "change_wish", number, (1, 1))
            self.check(NoRow, kept, "share", number)
            self.check(NoRow, kept, "out", number)
        self.assertEqual(kept.put_row(row(7), (8, 1)), 3)
        for act, arguments in (("take_row", (0,)), ("change_wish", (0, (1, 1))), ("share", (0,)), ("out", (0,))):
            self.check(NoRow, Kept(("a",)), act, *arguments)
            self.check(NoRow, Kept(()), act, *arguments)

    def test_names_that_there_are_already(self):
        kept = kept_of((("a", "bc"), (row(1, 2), row(3, 4)), row(5, 6)))
        self.check(NoName, kept, "put_column", "a", row(7, 8))
        self.check(NoName, kept, "put_column", "bc", row(7, 8))
        kept.put_column("b", row(7, 8))
        self.check(NoName, kept, "put_column", "b", row(7, 8))
        self.check(NoName, Kept(("a",)), "put_column", "a", ())

    def test_names_that_there_are_not(self):
        kept = kept_of((("a", "bc"), (row(1, 2), row(3, 4)), row(5, 6)))
        for name in ("b", "c", "ab", "abc", "z"):
            self.check(NoName, kept, "take_column", name)
        kept.take_column("a")
        self.check(NoName, kept, "take_column", "a")
        self.check(NoName, Kept(()), "take_column", "a")

    def test_refusals_use_up_no_number(self):
        kept = Kept(("a",))
        for act, arguments in (("take_row", (0,)), ("put_column", ("a", ())), ("take_column", ("b",)), ("out", (5,))):
            self.check(NoName if "column" in act else NoRow, kept, act, *arguments)
        self.assertEqual(kept.put_row(row(1), (1, 1)), 0)


class Shares(unittest.TestCase):
    def check(self, table):
        """Shares and what rows would be left with, by the document's words; tells the shares."""
        kept = kept_of(table)
        names, rows, wish = table
        weights, left, far = nearest(table)
        shares = []
        for at in range(len(rows)):
            share = own(kept.share(at))
            more = (names, rows, wish[:at] + ((wish[at][0] + wish[at][1], wish[at][1]),) + wish[at + 1:])
            grown = sum_with(rows[at], nearest(more)[0]) - sum_with(rows[at], weights)
            self.assertEqual(share, grown)
            self.assertTrue(0 <= share <= 1)
            self.check_out(kept, table, at, share, left)
            shares.append(share)
        self.assertEqual(kept.table(), table)
        self.assertEqual(kept.nearest(), (weights, left, far))
        return shares

    def check_out(self, kept, table, at, share, left):
        out = kept.out(at)
        self.assertEqual(kept.out(at), out)
        if share == 1:
            self.assertIsNone(out)
        else:
            self.assertTrue(is_fraction(out))
            self.assertEqual(own(out), own(left[at]) / (1 - share))
            others = nearest(without(table, at))[0]
            self.assertEqual(out, left_of(table, others)[at])

    def test_one_column(self):
        shares = self.check((("a",), (row(1), row(1), row(1), row(1)), row(1, 2, 3, 10)))
        self.assertEqual(shares, [own(x) for x in row("1/4", "1/4", "1/4", "1/4")])
        kept = kept_of((("a",), (row(1), row(1), row(1)), row(1, 2, 9)))
        self.assertEqual([kept.out(at) for at in range(3)], [(-9, 2), (-3, 1), (15, 2)])

    def test_between(self):
        shares = self.check((("a", "b"), (row(1, 0), row(1, 1), row(1, 2)), row(6, 0, 0)))
        self.assertEqual(shares, [own(x) for x in row("5/6", "1/3", "5/6")])

    def test_of_nought_and_of_one(self):
        # The first row is nought; the second alone bears on b; the others share a.
        table = (("a", "b"), (row(0, 0), row(0, 2), row(1, 0), row(1, 0)), row(7, 5, 1, 2))
        self.assertEqual(self.check(table), [0, 1, own((1, 2)), own((1, 2))])
        kept = kept_of(table)
        self.assertEqual((kept.out(0), kept.out(1)), ((7, 1), None))
        self.assertEqual((kept.out(2), kept.out(3)), ((-1, 1), (1, 1)))

    def test_all_of_one(self):
        table = (("a", "b"), (row(1, 1), row(1, -1)), row(3, 1))
        self.assertEqual(self.check(table), [1, 1])
        self.assertEqual(self.check((("a", "b", "c"), (row(1, 1, 0), row(0, 1, 2)), row(3, 1))), [1, 1])

    def test_without_columns(self):
        table = ((), ((), (), ()), row(1, "-1/2", 0))
        self.assertEqual(self.check(table), [0, 0, 0])
        kept = kept_of(table)
        self.assertEqual([kept.out(at) for at in range(3)], [(1, 1), (-1, 2), (0, 1)])

    def test_one_row(self):
        self.assertEqual(self.check((("a", "b"), (row(1, 2),), row(3))), [1])
        self.assertEqual(self.check((("a", "b"), (row(0, 0),), row(3))), [0])
        self.assertEqual(self.check(((), ((),), row(3))), [0])
        self.assertEqual(kept_of((("a",), (row(0),), row(3))).out(0), (3, 1))
        self.assertIsNone(kept_of((("a",), (row(2),), row(3))).out(0))

    def test_columns_alike(self):
        shares = self.check((("a", "b"), (row(1, 1), row(1, 1), row(2, 2)), row(1, 3, 5)))
        self.assertEqual(shares, [own(x) for x in row("1/6", "1/6", "2/3")])

    def test_numbers_and_places_differ(self):
        kept = Kept(("a",))
        for weight, wish in ((9, 9), (1, 1), (8, 8), (1, 2), (1, 9)):
            kept.put_row(row(weight), (wish, 1))
        kept.take_row(0)
        kept.take_row(2)
        self.assertEqual(kept.numbers(), [1, 3, 4])
        self.assertEqual([kept.share(at) for at in (1, 3, 4)], [(1, 3)] * 3)
        self.assertEqual([kept.out(at) for at in (1, 3, 4)], [(-9, 2), (-3, 1), (15, 2)])

    def test_of_all_sizes(self):
        chance = random.Random(1)
        ones = 0
        for columns in range(7):
            for rows in range(11):
                ones += self.check(some_table(chance, columns, rows)).count(1)
        self.assertGreater(ones, 20)

    def test_sum_of_shares(self):
        """Together shares are as many as there are columns that are no sums of others."""
        table = (("a", "b", "c"), (row(1, 0, 1), row(0, 1, 1), row(1, 2, 3), row(2, 1, 3)), row(1, 2, 3, 5))
        self.assertEqual(sum(self.check(table)), 2)

    def test_twelve_figures(self):
        chance = random.Random(2)
        self.check(some_table(chance, 2, 3, 12))
        kept = kept_of(some_table(chance, 6, 10, 12))
        self.assertTrue(0 <= own(kept.share(3)) <= 1)
        self.assertEqual(own(kept.out(3)) * (1 - own(kept.share(3))), own(kept.nearest()[1][3]))


class Afresh(unittest.TestCase):
    def test_many_changes(self):
        """Whatever was done, all is told as of the table afresh."""
        chance = random.Random(3)
        for round_ in range(12):
            kept, columns, lines, following = Kept(("a", "b")), ["a", "b"], {}, 0
            for step in range(40):
                act = chance.randrange(6)
                if act <= 1 and len(lines) < 10:
                    line, wish = some_row(chance, len(columns)), some_fraction(chance)
                    self.assertEqual(kept.put_row(line, wish), following)
                    lines[following] = [list(line), wish]
                    following += 1
                elif act == 2 and len(lines) > 2:
                    number = chance.choice(list(lines))
                    kept.take_row(number)
                    del lines[number]
                elif act == 3 and lines:
                    number, wish = chance.choice(list(lines)), some_fraction(chance)
                    kept.change_wish(number, wish)
                    lines[number][1] = wish
                elif act == 4 and len(columns) < 6:
                    name = chance.choice([name for name in "abcdefgh" if name not in columns])
                    numbers = some_row(chance, len(lines))
                    kept.put_column(name, numbers)
                    columns.append(name)
                    for entry, number in zip(lines.values(), numbers):
                        entry[0].append(number)
                elif act == 5 and columns:
                    name = chance.choice(columns)
                    kept.take_column(name)
                    for entry in lines.values():
                        del entry[0][columns.index(name)]
                    columns.remove(name)
                rows = tuple(tuple(line) for line, wish in lines.values())
                table = (tuple(columns), rows, tuple(wish for line, wish in lines.values()))
                self.assertEqual((kept.table(), kept.numbers()), (table, list(lines)))
                self.assertEqual(kept.nearest(), nearest(table))
                self.check_row(chance, kept, table)

    def check_row(self, chance, kept, table):
        if kept.numbers():
            at = chance.randrange(len(kept.numbers()))
            fresh = kept_of(table)
            number = kept.numbers()[at]
            self.assertEqual((kept.share(number), kept.out(number)), (fresh.share(at), fresh.out(at)))


class Own(unittest.TestCase):
    def test_what_is_told_is_the_askers_own(self):
        kept = kept_of((("a",), (row(1), row(2)), row(3, 5)))
        numbers, table = kept.numbers(), kept.table()
        numbers.append(7)
        numbers.reverse()
        self.assertEqual(kept.numbers(), [0, 1])
        self.assertEqual(kept.put_row(row(1), (1, 1)), 2)
        kept.put_column("b", row(1, 2, 3))
        kept.change_wish(0, (9, 1))
        self.assertEqual(table, (("a",), (row(1), row(2)), row(3, 5)))

    def test_what_is_handed_in_may_change(self):
        # Lists stand in for tuples here, to show that nothing hangs on them behind the call.
        names, line, numbers = ["a"], list(row(1)), list(row(5))
        kept = Kept(names)
        kept.put_row(line, (3, 1))
        kept.put_column("b", numbers)
        before = copy.deepcopy((names, line, numbers))
        table = kept.table()
        self.assertEqual((names, line, numbers), before)
        names.append("z")
        line[0] = (9, 1)
        numbers[0] = (9, 1)
        self.assertEqual(kept.table(), table)
        self.assertEqual(table, (("a", "b"), (row(1, 5),), row(3)))

    def test_two_are_apart(self):
        one, other = Kept(("a",)), Kept(("a",))
        one.put_row(row(1), (1, 1))
        self.assertEqual((one.numbers(), other.numbers()), ([0], []))
        self.assertEqual(other.put_row(row(2), (2, 1)), 0)

    def test_methods_stand_in_the_class(self):
        for name in (
            "put_row", "take_row", "change_wish", "put_column", "take_column", "table", "numbers", "nearest", "share", "out",
        ):
            self.assertIn(name, Kept.__dict__)


if __name__ == "__main__":
    unittest.main()
