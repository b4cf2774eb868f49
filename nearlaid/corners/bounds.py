"""The nearest weights under ties and bounds: pairs (low, high), each a fraction or None.

They are sought from face to face: a face is all weights that fulfil the ties, with the same ones
held at their bounds. From the nearest of a face there are pulls which show that none that are let
are nearer, or a way that leads to nearer ones. So no face is come to twice, and the search ends.
"""

from nearlaid.corners.corners import least_corner
from nearlaid.numbers.fractions import NOUGHT, ONE, compared, less, over, plus, product, times
from nearlaid.numbers.rows import noughts, opposite, places_of, row_less, row_plus, row_times, turned, unit
from nearlaid.tables.nearest import balanced
from nearlaid.tables.texts import left_of
from nearlaid.tables.ties import ties_hold


def nearest_bound(table, ties, bounds):
    """("near", weights, what is left, how far, pulls), or ("none", paper)."""
    begin = tuple([inside(low, high) for low, high in bounds])
    # Weights within the bounds that are nearest to the ties' numbers fulfil them, or what is left is a paper.
    tied = (table[0], tuple([row for row, number in ties]), tuple([number for row, number in ties]))
    weights, left, pulls = nearest_from(tied, (), bounds, begin)
    if left != noughts(len(ties)):
        return ("none", left)
    weights, left, pulls = nearest_from(table, ties, bounds, weights)
    return ("near", weights, left, product(left, left), pulls)


def inside(low, high):
    """A weight within its bounds."""
    if low is not None:
        return low
    return NOUGHT if high is None else high


def nearest_from(table, ties, bounds, weights):
    """(weights, what is left, pulls) of the nearest that are let, sought from some that are let."""
    while True:
        weights = face_nearest(table, ties, bounds, weights)
        left = left_of(table, weights)
        word, found = pulls_or_way(table, ties, bounds, weights, left)
        if word == "pulls":
            return weights, left, found
        sums = [product(row, found) for row in table[1]]
        weights = moved(weights, found, bounds, over(product(left, sums), product(sums, sums)))


def face_nearest(table, ties, bounds, weights):
    """The nearest of the weights' face, or of a smaller one whose bounds are met on the way there."""
    while True:
        held = [weight in pair for weight, pair in zip(weights, bounds)]
        aim = held_nearest(table, ties, weights, held)
        weights = moved(weights, row_less(aim, weights), bounds, ONE)
        if weights == aim:
            return aim


def held_nearest(table, ties, weights, held):
    """The nearest of the weights that fulfil the ties and keep those that are held, bounds aside."""
    names, rows, wish = table
    loose = [k for k in range(len(names)) if not held[k]]
    kept = tuple([weight if hold else NOUGHT for weight, hold in zip(weights, held)])
    part = (places_of(names, loose), tuple([places_of(row, loose) for row in rows]), left_of(table, kept))
    part_ties = [(places_of(row, loose), less(number, product(row, kept))) for row, number in ties]
    found, pulls = balanced(part, part_ties)
    told = list(kept)
    for k, weight in zip(loose, found):
        told[k] = weight
    return tuple(told)


def moved(weights, way, bounds, most):
    """The weights moved along the way, at most so many times, as far as the bounds let."""
    for weight, change, (low, high) in zip(weights, way, bounds):
        end = high if change[0] > 0 else low
        if change != NOUGHT and end is not None:
            step = over(less(end, weight), change)
            if compared(step, most) < 0:
                most = step
    return row_plus(weights, row_times(way, most))


def pulls_or_way(table, ties, bounds, weights, left):
    """("pulls", pulls) which show that the weights are nearest, or ("way", way) that leads to nearer ones.

    Pulls are sought as a corner question, as differences of numbers that are not below 0, with
    numbers for the pushes that bounds hold. Its prices, where there are none, are such a way.
    """
    names, rows, wish = table
    many = len(names)
    tied = turned([row for row, number in ties], many)
    asked = []
    for k, column in enumerate(turned(rows, many)):
        low, high = bounds[k]
        at_high = unit(many, k) if weights[k] == high else noughts(many)
        at_low = unit(many, k) if weights[k] == low else noughts(many)
        asked.append((tied[k] + opposite(tied[k]) + at_high + opposite(at_low), product(column, left)))
    told = least_corner(noughts(2 * len(ties) + 2 * many), tuple(asked))
    if told[0] == "none":
        return ("way", told[1])
    numbers = told[1]
    return ("pulls", row_less(numbers[:len(ties)], numbers[len(ties):2 * len(ties)]))


def bound_shown(table, ties, bounds, told):
    """Whether what is told of the nearest weights under ties and bounds holds in all its parts."""
    if told[0] == "none":
        word, paper = told
        return paper_shown(ties, bounds, paper)
    word, weights, left, far, pulls = told
    if not ties_hold(ties, weights) or not are_within(bounds, weights):
        return False
    if left != left_of(table, weights) or far != product(left, left):
        return False
    return pushes_held(table, ties, bounds, weights, left, pulls)


def are_within(bounds, weights):
    """Whether each weight lies within its bounds."""
    for weight, (low, high) in zip(weights, bounds):
        if low is not None and compared(weight, low) < 0:
            return False
        if high is not None and compared(weight, high) > 0:
            return False
    return True


def pushes_held(table, ties, bounds, weights, left, pulls):
    """Whether each column's product with what is left, less the pulls, is 0 or held by a bound."""
    names, rows, wish = table
    tied = turned([row for row, number in ties], len(names))
    for k, column in enumerate(turned(rows, len(names))):
        low, high = bounds[k]
        push = less(product(column, left), product(tied[k], pulls))
        if push[0] > 0 and weights[k] != high:
            return False
        if push[0] < 0 and weights[k] != low:
            return False
    return True


def paper_shown(ties, bounds, paper):
    """Whether the paper's sum with the ties' numbers is more than any weights within the bounds reach."""
    tied = turned([row for row, number in ties], len(bounds))
    greatest = NOUGHT
    for column, (low, high) in zip(tied, bounds):
        by = product(column, paper)
        end = high if by[0] > 0 else low
        if by != NOUGHT:
            if end is None:
                return False
            greatest = plus(greatest, times(by, end))
    return compared(product(paper, [number for row, number in ties]), greatest) > 0
