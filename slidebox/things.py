"""Words, shapes and boxes: what is one, and the shapes of rows."""

from slidebox.errors import NoShape

GREATEST_LETTER = 30
MOST_PLACES = 16


def is_number(thing):
    # Python counts True and False among the whole numbers, the document does not.
    return isinstance(thing, int) and not isinstance(thing, bool)


def is_letter(thing):
    return is_number(thing) and 1 <= thing <= GREATEST_LETTER


def is_word(thing):
    if not isinstance(thing, tuple) or len(thing) > MOST_PLACES:
        return False
    return all([is_letter(part) for part in thing])


def is_shape(thing):
    # Each part is asked for its kind first: only numbers can be added and compared.
    if not isinstance(thing, tuple) or not all([is_number(part) and part >= 1 for part in thing]):
        return False
    return sum(thing) <= MOST_PLACES and does_not_fall(thing[::-1])


def is_box(thing):
    if not isinstance(thing, tuple) or not all([is_word(row) for row in thing]):
        return False
    if not is_shape(shape_of(thing)) or not all([does_not_fall(row) for row in thing]):
        return False
    return all([rises_down(upper, lower) for upper, lower in zip(thing, thing[1:])])


def is_full(thing):
    if not is_box(thing):
        return False
    letters = []
    for row in thing:
        letters.extend(row)
    return sorted(letters) == list(range(1, len(letters) + 1))


def does_not_fall(row):
    return all([one <= other for one, other in zip(row, row[1:])])


def rises_down(upper, lower):
    return all([above < below for above, below in zip(upper, lower)])


def shape_of(rows):
    return tuple([len(row) for row in rows])


def turned_shape(shape):
    if not is_shape(shape):
        raise NoShape("only a shape can be turned")
    columns = max(shape, default=0)
    return tuple([column_length(shape, column) for column in range(columns)])


def row_length(shape, row):
    # Behind the last row there is nothing.
    return shape[row] if row < len(shape) else 0


def column_length(shape, column):
    return len([length for length in shape if length > column])


def has_corner(shape, row):
    # The row may be a thing of any kind: what is no row has no corner.
    if not is_number(row) or row < 0 or row >= len(shape):
        return False
    return row == len(shape) - 1 or shape[row] > shape[row + 1]
