"""Letters put into a box, and corners taken out of it."""

from slidebox.errors import NoBox, NoPlace, NoWord, TooBig
from slidebox.things import MOST_PLACES, has_corner, is_box, is_letter, shape_of


def put_in(box, letter):
    if not is_box(box):
        raise NoBox("a letter can be put into a box alone")
    if not is_letter(letter):
        raise NoWord("only a letter can be put into a box")
    if sum(shape_of(box)) >= MOST_PLACES:
        raise TooBig("the box has no room for one more place")
    rows = list(box)
    moving = letter
    for number, row in enumerate(box):
        column = first_greater(row, moving)
        rows[number] = with_letter(row, column, moving)
        if column == len(row):
            return (tuple(rows), (number, column))
        moving = row[column]
    rows.append((moving,))
    return (tuple(rows), (len(box), 0))


def taken_out(box, row):
    if not is_box(box):
        raise NoBox("a corner can be taken out of a box alone")
    if not has_corner(shape_of(box), row):
        raise NoPlace("there is no corner in that row")
    rows = list(box)
    rows[row] = box[row][:-1]
    moving = box[row][-1]
    for number in range(row - 1, -1, -1):
        column = last_less(box[number], moving)
        rows[number] = with_letter(box[number], column, moving)
        moving = box[number][column]
    # A row that lost its only letter is the last one, and no row of a box is empty.
    return (tuple([left for left in rows if len(left) > 0]), moving)


def first_greater(row, letter):
    # Letters do not fall along a row, so all that are not greater stand ahead;
    # where none is greater, this is the row's end.
    return len([standing for standing in row if standing <= letter])


def last_less(row, letter):
    # There is always one: the letter came from below, where it was greater than the one above it.
    return len([standing for standing in row if standing < letter]) - 1


def with_letter(row, column, letter):
    # At the row's end nothing stands, so there the row becomes longer.
    return row[:column] + (letter,) + row[column + 1:]
