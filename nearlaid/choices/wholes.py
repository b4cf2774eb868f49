"""Nearest whole weights within whole bounds, and papers which show that none are nearer."""

from nearlaid.choices.boxes import box_nearest, far_at, held_at, low_place, question_of
from nearlaid.choices.knots import named_rightly, states_at_ends
from nearlaid.numbers.fractions import NOUGHT, compared, fraction, less, plus, product, times
from nearlaid.numbers.rows import turned
from nearlaid.tables.texts import far_of, left_of

TWO = (2, 1)


def nearest_wholes(table, bounds):
    """(weights, how far, paper) of the first of the nearest whole weights."""
    question = question_of(table)
    products, pulls, square = question
    best, weights = first_behind(products, pulls, square, bounds, 0)
    knots = []
    grow(knots, table, (question, best), bounds, low_place(bounds))
    return (weights, far_of(table, fractions_of(weights)), tuple(knots))


def fractions_of(weights):
    """Whole weights as fractions."""
    return tuple([(weight, 1) for weight in weights])


def first_behind(products, pulls, far, bounds, column):
    """(how far, weights) of the first nearest whole weights of the column and all behind it.

    Handed in are the pulls, and how far it is, with the weights ahead chosen and these ones 0.
    """
    if column == len(bounds):
        return far, ()
    best = None
    for weight in weights_to_try(products, pulls, bounds, column):
        rest = [pull - weight * x for pull, x in zip(pulls, products[column])]
        rest_far = far - weight * (pulls[column] + rest[column])
        found_far, found = first_behind(products, rest, rest_far, bounds, column + 1)
        if best is None or found_far < best[0]:
            best = (found_far, (weight, *found))
    return best


def weights_to_try(products, pulls, bounds, column):
    """The weights of the column, rising, among which the first nearest is."""
    low, high = bounds[column]
    square = products[column][column]
    if square == 0:
        return [low]
    if column < len(bounds) - 1:
        return list(range(low, high + 1))
    # Of the last column alone it is one of the two wholes about the nearest weight.
    floor = pulls[column] // square
    return [max(low, min(high, weight)) for weight in (floor, floor + 1)]


def grow(knots, table, asked, box, place):
    """Put a knot to the others for a box, and all that are behind it; place is one in the box to seek from."""
    question, best = asked
    place = box_nearest(question, box, place)
    above, below = far_at(question, place)
    if above >= best * below:
        knots.append(end_at(table, place))
        return
    column, number = split_at(place)
    low, high = box[column]
    ahead, behind = box[:column], box[column + 1:]
    at = len(knots)
    knots.append(None)
    grow(knots, table, asked, (*ahead, (low, number), *behind), held_at(place, column, number))
    high_knot = len(knots)
    grow(knots, table, asked, (*ahead, (number + 1, high), *behind), held_at(place, column, number + 1))
    knots[at] = ("split", column, number, at + 1, high_knot)


def split_at(place):
    """(column, number): the first column whose weight is not whole, and the whole number below it."""
    # There is one: whole weights are never less far than the nearest whole ones.
    numbers, below, loose = place
    column = [k for k in loose if numbers[k] % below != 0][0]
    return column, numbers[column] // below


def end_at(table, place):
    """The end of a way: by what is left of the nearest weights within the box none there is nearer."""
    numbers, below, loose = place
    pulls = left_of(table, [fraction(number, below) for number in numbers])
    return ("end", pulls, product(pulls, pulls))


def wholes_shown(table, bounds, weights, paper):
    """Whether the weights are within the bounds, and the paper shows that no whole ones there are nearer."""
    branches = [(knot[1], knot[3], knot[4]) if knot[0] == "split" else None for knot in paper]
    if not named_rightly(branches, len(table[0])):
        return False
    if not all(low <= weight <= high for weight, (low, high) in zip(weights, bounds)):
        return False
    far = far_of(table, fractions_of(weights))
    for end, box in states_at_ends(paper, branches, bounds, split_boxes):
        if all(low <= high for low, high in box):
            word, pulls, told_far = end
            if told_far != shown_far(table, box, pulls) or compared(told_far, far) < 0:
                return False
    return True


def split_boxes(knot, box):
    """The box below and the box above a split."""
    word, column, number, low_knot, high_knot = knot
    low, high = box[column]
    ahead, behind = box[:column], box[column + 1:]
    return (*ahead, (low, min(high, number)), *behind), (*ahead, (max(low, number + 1), high), *behind)


def shown_far(table, box, pulls):
    """No weights within the box are less far than this, as the pulls show."""
    names, rows, wish = table
    most = NOUGHT
    for column, (low, high) in zip(turned(rows, len(names)), box):
        by = product(column, pulls)
        most = plus(most, times(by, (high if by[0] > 0 else low, 1)))
    return less(times(TWO, less(product(wish, pulls), most)), product(pulls, pulls))
