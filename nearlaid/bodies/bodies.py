"""Bodies: all sums of weights times points, where no weight is below 0 and their sum is 1."""

from nearlaid.corners.bounds import nearest_bound
from nearlaid.corners.corners import least_corner
from nearlaid.numbers.fractions import NOUGHT, ONE, compared, less, over, product
from nearlaid.numbers.rows import noughts, ones, opposite, row_less, row_sum, turned

TWO = (2, 1)


def nearest_point(body, point):
    """(weights, nearest point, how far) of the body's point that is nearest to the point asked for."""
    many = len(body)
    # Only how many names there are counts.
    table = (("",) * many, turned(body, len(point)), point)
    ties = ((ones(many), ONE),)
    word, weights, left, far, pulls = nearest_bound(table, ties, ((NOUGHT, None),) * many)
    return (weights, row_less(point, left), far)


def point_by(body, weights):
    """The sum of the weights times the body's points."""
    return tuple([product(numbers, weights) for numbers in turned(body, len(body[0]))])


def are_let(body, weights):
    """Whether weights are of a point of the body: one for each, none below 0, their sum 1."""
    if len(weights) != len(body) or any(above < 0 for above, below in weights):
        return False
    return row_sum(weights) == ONE


def point_shown(body, point, weights):
    """Whether the weights are of the body's point that is nearest to the point asked for."""
    if not are_let(body, weights):
        return False
    near = point_by(body, weights)
    away = row_less(near, point)
    return all(product(away, row_less(corner, near))[0] >= 0 for corner in body)


def two_bodies(one, other):
    """("met", weights, weights) of a point of both bodies, or ("parted", row, number) between them."""
    # Weights of one and the same point are sought; the prices, where there are none, part the bodies.
    asked = []
    for numbers, other_numbers in zip(turned(one, len(one[0])), turned(other, len(other[0]))):
        asked.append((numbers + opposite(other_numbers), NOUGHT))
    asked.append((ones(len(one)) + noughts(len(other)), ONE))
    asked.append((noughts(len(one)) + ones(len(other)), ONE))
    told = least_corner(noughts(len(one) + len(other)), tuple(asked))
    if told[0] == "least":
        return ("met", told[1][:len(one)], told[1][len(one):])
    # The row with the one's points comes at most to less than nought by the one price, with the other's at least
    # to the other price, and both prices together are above 0: so half their difference lies between.
    *row, one_price, other_price = told[1]
    return ("parted", tuple(row), over(less(other_price, one_price), TWO))


def two_shown(one, other, told):
    """Whether what is told of two bodies holds."""
    if told[0] == "met":
        word, weights, other_weights = told
        if not are_let(one, weights) or not are_let(other, other_weights):
            return False
        return point_by(one, weights) == point_by(other, other_weights)
    word, row, number = told
    if any(compared(product(row, point), number) >= 0 for point in one):
        return False
    return all(compared(product(row, point), number) > 0 for point in other)
