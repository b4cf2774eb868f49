"""Nearest weights within a box, whole or not, of a table with whole numbers.

Thousands of boxes are asked for one paper, so all is reckoned by whole numbers: a question is
(products, pulls, square), the sums of the table, and a box has a pair of whole bounds for each column.
A place in the box is (numbers, below, loose): weights, all over one below, and the columns whose
weights are loose, the others being at a bound. No loose column is a sum of others of them: one that
is put to them has a push, and they have none.
"""

from nearlaid.numbers.fractions import common_below, whole_row
from nearlaid.numbers.rows import turned
from nearlaid.numbers.systems import cleared


def question_of(table):
    """The sums of the table, taken so many times that all its numbers are whole."""
    names, rows, wish = table
    by = common_below([number for row in (*rows, wish) for number in row])
    columns = [whole_row(column, by) for column in turned(rows, len(names))]
    wished = whole_row(wish, by)
    products = [[whole_product(column, other) for other in columns] for column in columns]
    pulls = [whole_product(column, wished) for column in columns]
    return (products, pulls, whole_product(wished, wished))


def whole_product(row, other):
    """The sum of the products of two rows of whole numbers."""
    return sum([x * y for x, y in zip(row, other)])


def low_place(box):
    """The place at all low bounds."""
    return ([low for low, high in box], 1, [])


def held_at(place, column, weight):
    """The place with the column's weight put to a bound."""
    numbers, below, loose = place
    moved = [*numbers[:column], weight * below, *numbers[column + 1:]]
    return (moved, below, [k for k in loose if k != column])


def box_nearest(question, box, place):
    """A place of nearest weights within the box, sought from another one."""
    place = settled(question, box, place)
    while True:
        column = pushed_inwards(question, box, place)
        if column is None:
            return place
        numbers, below, loose = place
        place = settled(question, box, (numbers, below, [*loose, column]))


def pushed_inwards(question, box, place):
    """The first column whose weight at a bound is pushed into the box, or None; loose ones have no push."""
    products, pulls, square = question
    numbers, below, loose = place
    for k, (low, high) in enumerate(box):
        push = pulls[k] * below - whole_product(products[k], numbers)
        if (push > 0 and numbers[k] != high * below) or (push < 0 and numbers[k] != low * below):
            return k
    return None


def settled(question, box, place):
    """The place where the loose weights are nearest, or fewer of them, others being stopped at bounds."""
    while True:
        numbers, below, loose = place
        aim, aim_below = loose_nearest(question, place)
        ways = [x * below - y * aim_below for x, y in zip(aim, numbers)]
        stop = first_stop(box, place, aim, aim_below, ways)
        if stop is None:
            return (aim, aim_below, loose)
        room, way = stop
        numbers = [x * way + room * y for x, y in zip(numbers, ways)]
        below = below * way
        still = [k for k in loose if box[k][0] * below < numbers[k] < box[k][1] * below]
        place = (numbers, below, still)


def loose_nearest(question, place):
    """(numbers, below) with the loose weights nearest, box aside, and the others where they are."""
    products, pulls, square = question
    numbers, below, loose = place
    # Weights at bounds are whole.
    held = [0 if k in loose else number // below for k, number in enumerate(numbers)]
    lines = []
    for k in loose:
        rest = pulls[k] - whole_product(products[k], held)
        lines.append([*[products[k][at] for at in loose], rest])
    lines, leads, lead = cleared(lines, len(loose))
    aim = [number * lead for number in held]
    for k, line in zip(loose, lines):
        aim[k] = line[-1]
    return aim, lead


def first_stop(box, place, aim, aim_below, ways):
    """(room, way) of the loose weight that is the first to come to a bound before the aim, or None."""
    numbers, below, loose = place
    found = None
    for k in loose:
        low, high = box[k]
        if aim[k] < low * aim_below or aim[k] > high * aim_below:
            end = low if aim[k] < low * aim_below else high
            room, way = abs(end * below - numbers[k]), abs(ways[k])
            if found is None or room * found[1] < found[0] * way:
                found = (room, way)
    return found


def far_at(question, place):
    """(above, below): how far the weights of the place are."""
    products, pulls, square = question
    numbers, below, loose = place
    sums = [whole_product(line, numbers) for line in products]
    above = square * below * below - 2 * below * whole_product(pulls, numbers) + whole_product(sums, numbers)
    return above, below * below
