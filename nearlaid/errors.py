"""The refusals of the program; a caller may catch all of them as NearError."""


class NearError(ValueError):
    """Any refusal."""


class NoNumber(NearError):
    """A text that writes no fraction, or a fraction with 0 below."""


class NoName(NearError):
    """A name that is there already, or is not."""


class NoRow(NearError):
    """A number of a row that there is not."""


class NoAsk(NearError):
    """A line that asks for nothing that is known."""


class NoBound(NearError):
    """A low bound above the high one."""


class TooMany(NearError):
    """One tie, column or row more than may be kept."""


class NoSums(NearError):
    """Sums of products that are no table's."""


class NoTable(NearError):
    """A text that writes no table; row is the first line that is none, counted from 0."""

    def __init__(self, row):
        super().__init__(f"line {row} is no line of a table")
        self.row = row
