"""Rows of whole numbers, all of one length, made up of other rows: each of those times a fraction, put together.

Steps are told of rows none of which is made up of those ahead of it. A step has the number of a column, and what is
left of its row when the columns of all steps ahead are cleared in it. Behind the numbers of a row stand its marks, one
for each step: how often the row of that step went into it.
"""


# There are no fractions on the way: what is left are determinants of the rows gone through, so each division by the
# number of the step ahead comes out even, and keeps the numbers small.
def left_by(steps, numbers):
    left = numbers
    before = 1
    for column, step in steps:
        factor = left[column]
        left = [(step[column] * one - factor * other) // before for one, other in zip(left, step)]
        before = step[column]
    return left


# Those in which something is left of the row; none where it is made up of the rows of the steps.
def columns_left(steps, row):
    left = left_by(steps, list(row))
    return [column for column in range(len(row)) if left[column] != 0]


# Each row one that is not made up of those ahead of it.
def steps_of(rows):
    steps = []
    for row in rows:
        steps = steps_with(steps, row)
    return steps


def steps_with(steps, row):
    marks = [0] * len(row)
    marks[len(steps)] = 1
    return steps + [(columns_left(steps, row)[0], left_by(steps, list(row) + marks))]


# By these the row is made up of those of the steps, of one step at least; None where it is not. The row went into what
# is left as often as the last step's number in its column tells, and together with all else that did it comes to 0.
def fractions_for(steps, row):
    left = left_by(steps, list(row) + [0] * len(row))
    if any([number != 0 for number in left[:len(row)]]):
        return None
    column = steps[-1][0]
    bottom = steps[-1][1][column]
    return [lowest(-mark, bottom) for mark, step in zip(left[len(row):], steps)]


def lowest(top, bottom):
    shared = shared_divisor(top, bottom)
    sign = 1 if bottom > 0 else -1
    return (sign * top // shared, sign * bottom // shared)


# The greatest one, above 0 where one of the two is not 0.
def shared_divisor(one, other):
    greater = abs(one)
    lesser = abs(other)
    while lesser > 0:
        rest = greater % lesser
        greater = lesser
        lesser = rest
    return greater


def is_fraction(pair):
    return len(pair) == 2 and pair[1] >= 1 and shared_divisor(pair[0], pair[1]) == 1


# With all fractions brought to one bottom.
def is_made_up(row, rows, fractions):
    bottom = 1
    for pair in fractions:
        bottom = bottom * pair[1]
    tops = [pair[0] * (bottom // pair[1]) for pair in fractions]
    for column, number in enumerate(row):
        if sum([top * other[column] for top, other in zip(tops, rows)]) != bottom * number:
            return False
    return True
