"""What is left where the wish moves straight from one to another, under bounds.

Along the way it goes straight from knot to knot. Between two knots each push, a column's product with
what is left, keeps its sign: one above 0 holds its weight at the high bound, one below 0 at the low one.
"""

from nearlaid.corners.bounds import are_within, nearest_bound
from nearlaid.corners.corners import least_corner
from nearlaid.numbers.fractions import NOUGHT, ONE, common_below, compared, less, over, plus, product, whole_row
from nearlaid.numbers.rows import noughts, opposite, row_less, row_plus, row_times, turned, unit
from nearlaid.tables.nearest import level_ways
from nearlaid.tables.texts import left_of


def moving_knots(table, other, bounds):
    """(knots, paper): pairs (t, what is left), and for each two neighbours the weights at both."""
    names, rows, wish = table
    moved = (names, rows, row_less(other, wish))
    word, weights, left, far, pulls = nearest_bound(table, (), bounds)
    t = NOUGHT
    knots = [(t, left)]
    paper = []
    while t != ONE:
        pushes = pushes_of(table, left)
        word, way, change, far, pulls = nearest_bound(moved, (), way_bounds(bounds, weights, pushes))
        turns = pushes_of(table, change)
        loose = [k for k in range(len(names)) if pushes[k] == NOUGHT and turns[k] == NOUGHT]
        most = longest(bounds, pushes, turns, less(ONE, t))
        step, end = farthest(rows, bounds, weights, way, loose, most)
        paper.append((weights, end))
        t, left, weights = plus(t, step), row_plus(left, row_times(change, step)), end
        knots.append((t, left))
    return (tuple(knots), tuple(paper))


def pushes_of(table, left):
    """Each column's product with what is left."""
    names, rows, wish = table
    return [product(column, left) for column in turned(rows, len(names))]


def way_bounds(bounds, weights, pushes):
    """Bounds for how the weights go on: at a bound only inwards, pushed to it not at all.

    With these, the nearest to how the wish goes on is how the weights do, and what is left of it
    is how what is left changes. What then pushes a weight to a bound finds it there already.
    """
    told = []
    for (low, high), weight, push in zip(bounds, weights, pushes):
        lowest = NOUGHT if weight == low or push != NOUGHT else None
        highest = NOUGHT if weight == high or push != NOUGHT else None
        told.append((lowest, highest))
    return tuple(told)


def is_one(bound):
    """Whether low and high are the same fraction."""
    low, high = bound
    return low is not None and low == high


def longest(bounds, pushes, turns, most):
    """How far t may go on, at most so far, until the first push is 0 and would turn its sign."""
    for bound, push, turn in zip(bounds, pushes, turns):
        if push[0] * turn[0] < 0 and not is_one(bound):
            until = over(push, (-turn[0], turn[1]))
            if compared(until, most) < 0:
                most = until
    return most


def farthest(rows, bounds, weights, way, loose, most):
    """(step, weights there): how often the weights may go the way, at most so often, within the bounds.

    Loose weights may go any ways besides that change no sum, so that no bound stops them too early.
    """
    many = len(weights)
    held = [unit(many, k) for k in range(many) if k not in loose]
    flat = level_ways([*rows, *held], many)
    ways = (way, *flat, *[opposite(one) for one in flat])
    limits = [whole_limit(unit(len(ways), 0), most)]
    for k in loose:
        low, high = bounds[k]
        gone = tuple([one[k] for one in ways])
        if low is not None:
            limits.append(whole_limit(opposite(gone), less(weights[k], low)))
        if high is not None:
            limits.append(whole_limit(gone, less(high, weights[k])))
    asked = [(row + unit(len(limits), at), number) for at, (row, number) in enumerate(limits)]
    costs = ((-1, 1),) + noughts(len(ways) - 1 + len(limits))
    times_gone = least_corner(costs, tuple(asked))[1]
    for one, number in zip(ways, times_gone):
        weights = row_plus(weights, row_times(one, number))
    return times_gone[0], weights


def whole_limit(row, number):
    """A row and its most, taken so many times that all are whole: else the corner question's numbers grow long."""
    numbers = (*row, number)
    *wholes, most = [(whole, 1) for whole in whole_row(numbers, common_below(numbers))]
    return tuple(wholes), most


def wish_at(table, other, t):
    """The wish at t, on the way from the table's to the other."""
    wish = table[2]
    return row_plus(wish, row_times(row_less(other, wish), t))


def moving_shown(table, other, bounds, knots, paper):
    """Whether the knots and their paper hold."""
    if knots[0][0] != NOUGHT or knots[-1][0] != ONE:
        return False
    for at in range(len(paper)):
        if not piece_shown(table, other, bounds, knots[at:at + 2], paper[at]):
            return False
    return not any(is_straight(knots[at:at + 3]) for at in range(len(knots) - 2))


def piece_shown(table, other, bounds, ends, pair):
    """Whether t rises between two neighbours, and the pair of weights shows what is left at and between them."""
    (begin, begin_left), (end, end_left) = ends
    if compared(begin, end) >= 0:
        return False
    for (t, left), weights in zip(ends, pair):
        here = (table[0], table[1], wish_at(table, other, t))
        if not are_within(bounds, weights) or left_of(here, weights) != left:
            return False
    begin_pushes, end_pushes = pushes_of(table, begin_left), pushes_of(table, end_left)
    for k, bound in enumerate(bounds):
        pushes = [begin_pushes[k], end_pushes[k]]
        if not both_held(pushes, [weights[k] for weights in pair], bound):
            return False
    return True


def both_held(pushes, weights, bound):
    """Whether both pushes of a column are 0, or one and the same bound holds both weights against them."""
    low, high = bound
    if is_one(bound) or pushes == [NOUGHT, NOUGHT]:
        return True
    if weights == [high, high]:
        return all(push[0] >= 0 for push in pushes)
    return weights == [low, low] and all(push[0] <= 0 for push in pushes)


def is_straight(three):
    """Whether the middle one of three knots lies straight between its neighbours."""
    (begin, begin_left), (middle, middle_left), (end, end_left) = three
    part = over(less(middle, begin), less(end, begin))
    return middle_left == row_plus(begin_left, row_times(row_less(end_left, begin_left), part))
