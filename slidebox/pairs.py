"""The two boxes of a word, the word told back from them, and the reading of a box."""

from slidebox.errors import NoBox, NoWord, Unlike
from slidebox.putting import put_in, taken_out
from slidebox.things import is_box, is_full, is_word, shape_of


def boxes(word):
    if not is_word(word):
        raise NoWord("only a word has boxes")
    box = ()
    times = ()
    for number, letter in enumerate(word, start=1):
        step = put_in(box, letter)
        box = step[0]
        times = with_place(times, step[1][0], number)
    return (box, times)


def word_of(box, times):
    if not is_box(box) or not is_full(times):
        raise NoBox("a word is told back from a box and a full one")
    if shape_of(box) != shape_of(times):
        raise Unlike("the two boxes have unlike shapes")
    left = box
    word = ()
    # The letter that came last is the one that can be taken out first.
    for number in range(sum(shape_of(times)), 0, -1):
        step = taken_out(left, row_with(times, number))
        left = step[0]
        word = (step[1],) + word
    return word


def reading(box):
    if not is_box(box):
        raise NoBox("only a box has a reading")
    word = ()
    for row in box:
        word = row + word
    return word


def with_place(rows, row, letter):
    # A place that comes is a row's end, or the first one of a new row.
    if row == len(rows):
        return rows + ((letter,),)
    return rows[:row] + (rows[row] + (letter,),) + rows[row + 1:]


def row_with(rows, letter):
    return [number for number, row in enumerate(rows) if letter in row][0]
