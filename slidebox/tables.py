"""Tables of numbers and their pairs of boxes, and the growth of a word."""

from slidebox.errors import NoBox, NoTable, NoWord, Unlike
from slidebox.pairs import reading, row_with, with_place
from slidebox.putting import put_in, taken_out
from slidebox.things import MOST_PLACES, is_box, is_number, is_word, row_length, shape_of

LONGEST_SIDE = 5


def pair_of(table):
    if not is_table(table):
        raise NoTable("only a table has a pair of boxes")
    one = ()
    other = ()
    for row, column in places_as_often(table):
        step = put_in(one, column)
        one = step[0]
        other = with_place(other, step[1][0], row)
    return (one, other)


def table_of(one, other, rows, columns):
    if not is_box(one) or not is_box(other):
        raise NoBox("a table is told back from two boxes")
    if shape_of(one) != shape_of(other):
        raise Unlike("the two boxes have unlike shapes")
    if not has_letters_to(one, columns) or not has_letters_to(other, rows):
        raise NoTable("there is no table of so many rows and columns")
    table = [[0] * columns for number in range(rows)]
    left = one
    left_other = other
    # What came last is taken out first: the greatest letter of the other box and, of several like ones,
    # the one furthest to the right, which is in the first row that has any.
    for letter in sorted(reading(other), reverse=True):
        row = row_with(left_other, letter)
        step = taken_out(left, row)
        left = step[0]
        left_other = without_end(left_other, row)
        table[letter - 1][step[1] - 1] += 1
    return tuple([tuple(numbers) for numbers in table])


def growth(word):
    if not is_word(word) or sorted(word) != list(range(1, len(word) + 1)):
        raise NoWord("only a word of the letters 1 to n, each once, has a growth")
    shapes = [[()] * (len(word) + 1)]
    for letter in word:
        shapes.append(shapes_below(shapes[-1], letter))
    return shapes


def is_table(thing):
    if not isinstance(thing, tuple) or not is_side(len(thing)) or not all([is_row_of_table(row) for row in thing]):
        return False
    if not all([len(row) == len(thing[0]) for row in thing]):
        return False
    return sum([sum(row) for row in thing]) <= MOST_PLACES


def is_row_of_table(thing):
    if not isinstance(thing, tuple) or not is_side(len(thing)):
        return False
    return all([is_number(part) and part >= 0 for part in thing])


def is_side(thing):
    return is_number(thing) and 1 <= thing <= LONGEST_SIDE


def has_letters_to(box, side):
    return is_side(side) and max(reading(box), default=0) <= side


def places_as_often(table):
    # Rows and columns are counted from 1 here, for their numbers are to be letters.
    places = []
    for row, numbers in enumerate(table, start=1):
        for column, often in enumerate(numbers, start=1):
            places.extend([(row, column)] * often)
    return places


def without_end(rows, row):
    return rows[:row] + (rows[row][:-1],) + rows[row + 1:]


def shapes_below(above, letter):
    below = [()]
    for column in range(len(above) - 1):
        below.append(fourth_shape(above[column], above[column + 1], below[column], letter == column + 1))
    return below


def fourth_shape(upper_left, upper_right, lower_left, letter_is_here):
    if letter_is_here:
        return with_one_more(upper_left, 0)
    if upper_right == lower_left and upper_right != upper_left:
        return with_one_more(upper_right, row_with_more(upper_right, upper_left) + 1)
    return joint(upper_right, lower_left)


def with_one_more(shape, row):
    return shape[:row] + (row_length(shape, row) + 1,) + shape[row + 1:]


def row_with_more(greater, less):
    return [row for row, length in enumerate(greater) if length > row_length(less, row)][0]


def joint(one, other):
    rows = max(len(one), len(other))
    return tuple([max(row_length(one, row), row_length(other, row)) for row in range(rows)])
