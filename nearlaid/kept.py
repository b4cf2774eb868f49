"""Kept tables: rows and columns come and go, and what a row would be left with without it is told."""

from nearlaid.errors import NoName, NoRow
from nearlaid.numbers.fractions import ONE, less, over
from nearlaid.tables.nearest import nearest_to, share_of


class Kept:
    """A table of named columns and of rows with numbers that are never given again."""

    def __init__(self, names):
        self.columns = tuple(names)
        # Rows stand by rising numbers, as a new one is always put behind the others.
        self.lines = {}
        self.following = 0

    def put_row(self, row, wish):
        """Put a row in, and tell its number."""
        number = self.following
        self.lines[number] = (tuple(row), wish)
        self.following += 1
        return number

    def take_row(self, number):
        """Take the row out."""
        self.check_row(number)
        del self.lines[number]

    def change_wish(self, number, wish):
        """Change the wish of the row."""
        self.check_row(number)
        self.lines[number] = (self.lines[number][0], wish)

    def check_row(self, number):
        """Refuse a number that no row has."""
        if number not in self.lines:
            raise NoRow("there is no such row")

    def put_column(self, name, numbers):
        """Put a column in behind the others, with a number for each row, by rising numbers of rows."""
        if name in self.columns:
            raise NoName("there is such a column already")
        self.columns = (*self.columns, name)
        for number, added in zip(list(self.lines), numbers):
            row, wish = self.lines[number]
            self.lines[number] = ((*row, added), wish)

    def take_column(self, name):
        """Take the column out."""
        if name not in self.columns:
            raise NoName("there is no such column")
        at = self.columns.index(name)
        self.columns = self.columns[:at] + self.columns[at + 1:]
        for number in list(self.lines):
            row, wish = self.lines[number]
            self.lines[number] = (row[:at] + row[at + 1:], wish)

    def table(self):
        """The table, its rows by rising numbers."""
        rows = tuple([row for row, wish in self.lines.values()])
        return (self.columns, rows, tuple([wish for row, wish in self.lines.values()]))

    def numbers(self):
        """The numbers of the rows, rising."""
        return list(self.lines)

    def nearest(self):
        """(weights, what is left, how far) of the table."""
        table = self.table()
        return nearest_to(table, table[2])

    def share(self, number):
        """What the told weights' sum with the row grows by where its wish grows by 1."""
        self.check_row(number)
        return share_of(self.table(), self.numbers().index(number))

    def out(self, number):
        """What the row would be left with by the table without it; None where its share is 1."""
        share = self.share(number)
        if share == ONE:
            return None
        left = self.nearest()[1]
        return over(left[self.numbers().index(number)], less(ONE, share))
