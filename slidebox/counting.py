"""Hooks of a shape, how many full boxes it has, and these gone through."""

from slidebox.errors import NoShape, TooMany
from slidebox.pairs import with_place
from slidebox.things import column_length, is_shape

MOST_FULL_BOXES = 200


def hooks(shape):
    if not is_shape(shape):
        raise NoShape("only a shape has hooks and full boxes")
    return tuple([hooks_of_row(shape, row) for row in range(len(shape))])


def how_many(shape):
    divisor = 1
    for row in hooks(shape):
        divisor = divisor * multiplied(row)
    return multiplied(list(range(1, sum(shape) + 1))) // divisor


def full_boxes(shape):
    # They are counted first, so that what is too many is never begun.
    if how_many(shape) > MOST_FULL_BOXES:
        raise TooMany("the shape has too many full boxes")
    found = [((),) * len(shape)]
    for number in range(1, sum(shape) + 1):
        found = with_number(found, shape, number)
    return sorted(found)


def hooks_of_row(shape, row):
    return tuple([hook(shape, row, column) for column in range(shape[row])])


def hook(shape, row, column):
    right = shape[row] - column - 1
    below = column_length(shape, column) - row - 1
    return right + below + 1


def multiplied(numbers):
    answer = 1
    for number in numbers:
        answer = answer * number
    return answer


def with_number(found, shape, number):
    # Each of the boxes begun so far can be filled to its end, so they never become more than the answer has.
    grown = []
    for rows in found:
        grown.extend([with_place(rows, row, number) for row in range(len(shape)) if has_room(shape, rows, row)])
    return grown


def has_room(shape, rows, row):
    # The numbers rise down each column, so the place above must have come before.
    if row > 0 and len(rows[row]) == len(rows[row - 1]):
        return False
    return len(rows[row]) < shape[row]
