"""Few columns: of all choices of so many columns the nearest, and papers which show that."""

from nearlaid.choices.knots import named_rightly, states_at_ends
from nearlaid.numbers.fractions import compared
from nearlaid.tables.sums import far_by, sums_of


def best_choices(table):
    """For each number of columns, from 0 on, a pair (columns, how far) of the first nearest choice."""
    sums = sums_of(table)
    columns = len(table[0])
    return tuple([best_choice(sums, columns, k) for k in range(columns + 1)])


def best_choice(sums, columns, k):
    """(columns, how far) of the first nearest choice of k columns."""
    best = None
    for choice in choices(columns, k):
        far = far_by(sums, choice)
        if best is None or compared(far, best[1]) < 0:
            best = (choice, far)
    return best


def choices(columns, k):
    """All rising tuples of k of so many places, the first as tuples first."""
    found = [()]
    for length in range(k):
        # Behind the next place there have to be as many as are still to be chosen.
        end = columns - (k - length) + 1
        found = [(*choice, place) for choice in found for place in range(behind(choice), end)]
    return found


def behind(choice):
    """The first place behind those that are chosen."""
    return choice[-1] + 1 if choice else 0


def paper_of(table, k):
    """A paper which shows that no choice of k columns is nearer than the told one."""
    sums = sums_of(table)
    columns = len(table[0])
    knots = []
    grow(knots, sums, (k, columns, best_choice(sums, columns, k)[1]), (), ())
    return tuple(knots)


def grow(knots, sums, asked, chosen, left_out):
    """Put a knot to the others for what is chosen and left out so far, and all that are behind it."""
    k, columns, far = asked
    column = len(chosen) + len(left_out)
    if not counts(k, columns, chosen, left_out) or bound_reaches(sums, columns, left_out, far):
        knots.append(("end",))
        return
    at = len(knots)
    knots.append(None)
    grow(knots, sums, asked, (*chosen, column), left_out)
    without = len(knots)
    grow(knots, sums, asked, chosen, (*left_out, column))
    knots[at] = ("part", column, at + 1, without)


def counts(k, columns, chosen, left_out):
    """Whether an end counts: k columns may be chosen behind what is chosen and left out there."""
    return len(chosen) <= k <= columns - len(left_out)


def bound_reaches(sums, columns, left_out, far):
    """Whether the nearest sum by all columns that are not left out is no less far."""
    return compared(far_by(sums, [k for k in range(columns) if k not in left_out]), far) >= 0


def choice_shown(table, k, columns, paper):
    """Whether the paper shows that no choice of k columns is nearer than these columns."""
    many = len(table[0])
    branches = [knot[1:] if knot[0] == "part" else None for knot in paper]
    if not named_rightly(branches, many):
        return False
    sums = sums_of(table)
    far = far_by(sums, columns)
    looked = {}
    for knot, (chosen, left_out) in states_at_ends(paper, branches, ((), ()), parted):
        if counts(k, many, chosen, left_out):
            # Many ends leave out the same columns: what was looked at is not reckoned again.
            if left_out not in looked:
                looked[left_out] = bound_reaches(sums, many, left_out, far)
            if not looked[left_out]:
                return False
    return True


def parted(knot, state):
    """What is chosen and left out, both rising tuples, behind a knot: its column chosen, and left out."""
    column = knot[1]
    chosen, left_out = state
    return (with_column(chosen, column), left_out), (chosen, with_column(left_out, column))


def with_column(columns, column):
    """The rising tuple of columns, with one more if it is not there yet."""
    if column in columns:
        return columns
    return tuple(sorted([*columns, column]))
