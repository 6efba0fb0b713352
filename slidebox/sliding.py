"""Boxes with a hole, and how they are slid together."""

from slidebox.errors import NoBox, NoPlace
from slidebox.things import does_not_fall, has_corner, is_shape, is_word, rises_down, row_length, shape_of

# Stands in the places of the hole, where it is counted but never compared.
EMPTY = 0


def is_holed(thing):
    if not isinstance(thing, tuple) or len(thing) != 2 or not is_shape(thing[0]):
        return False
    hole = thing[0]
    rows = thing[1]
    if not isinstance(rows, tuple) or not all([is_word(row) for row in rows]) or len(rows) < len(hole):
        return False
    if not is_shape(shape_of(with_hole(hole, rows))) or not all([does_not_fall(row) for row in rows]):
        return False
    return columns_rise(hole, with_hole(hole, rows))


def holes(holed):
    if not is_holed(holed):
        raise NoBox("only a box with a hole has its corners")
    return [row for row in range(len(holed[0])) if has_corner(holed[0], row)]


def slid(holed, row):
    if not is_holed(holed):
        raise NoBox("a corner can be slid out of a box with a hole alone")
    hole = holed[0]
    if not has_corner(hole, row):
        raise NoPlace("the hole has no corner in that row")
    rows = slid_to_end(with_hole(hole, holed[1]), row, hole[row] - 1)[0]
    # A row of the hole that lost its only place is the last one, and no row of a shape is empty.
    lengths = hole[:row] + (hole[row] - 1,) + hole[row + 1:]
    hole_left = tuple([length for length in lengths if length > 0])
    return (hole_left, tuple([part[row_length(hole_left, number):] for number, part in enumerate(rows)]))


def together(holed):
    left = holed
    corners = holes(left)
    while len(corners) > 0:
        left = slid(left, corners[0])
        corners = holes(left)
    return left[1]


def with_hole(hole, rows):
    return tuple([(EMPTY,) * row_length(hole, number) + row for number, row in enumerate(rows)])


def columns_rise(hole, rows):
    # Where the upper place is empty there are no two letters; the lower one may be empty there alone.
    begins = [row_length(hole, number) for number in range(len(rows))]
    return all([rises_down(upper[begin:], lower[begin:]) for begin, upper, lower in zip(begins, rows, rows[1:])])


def slid_to_end(rows, row, column):
    # The rows without the place that went, and that place.
    way = way_to_end(rows, row, column)
    left = [list(part) for part in rows]
    for place, neighbour in zip(way, way[1:]):
        left[place[0]][place[1]] = rows[neighbour[0]][neighbour[1]]
    end = way[-1]
    left[end[0]].pop()
    return (tuple([tuple(part) for part in left if len(part) > 0]), end)


def way_to_end(rows, row, column):
    way = [(row, column)]
    neighbour = less_neighbour(rows, row, column)
    while neighbour is not None:
        way.append(neighbour)
        neighbour = less_neighbour(rows, neighbour[0], neighbour[1])
    return way


def less_neighbour(rows, row, column):
    has_right = column + 1 < len(rows[row])
    has_lower = row + 1 < len(rows) and column < len(rows[row + 1])
    # Of two like letters the lower one goes up: the right one, gone left, would stand above a like one.
    if has_lower and (not has_right or rows[row + 1][column] <= rows[row][column + 1]):
        return (row + 1, column)
    return (row, column + 1) if has_right else None
