"""Full boxes turned about: rows for columns, and evacuated."""

from slidebox.errors import NoBox
from slidebox.sliding import slid_to_end
from slidebox.things import is_full, shape_of


def turned(box):
    if not is_full(box):
        raise NoBox("only a full box can be turned")
    columns = max(shape_of(box), default=0)
    return tuple([column_of(box, column) for column in range(columns)])


def evacuated(box):
    if not is_full(box):
        raise NoBox("only a full box can be evacuated")
    answer = [list(row) for row in box]
    left = box
    # The first step's number is the greatest: n + 1 less 1.
    for number in range(sum(shape_of(box)), 0, -1):
        step = slid_to_end(left, 0, 0)
        left = step[0]
        end = step[1]
        answer[end[0]][end[1]] = number
    return tuple([tuple(row) for row in answer])


def column_of(rows, column):
    return tuple([row[column] for row in rows if len(row) > column])
