"""Boxes written as texts, and read back."""

from slidebox.errors import NoBox, NoText
from slidebox.things import GREATEST_LETTER, is_box

EMPTY_BOX = "-"


def shown(box):
    if not is_box(box):
        raise NoBox("only a box can be shown")
    if box == ():
        return EMPTY_BOX
    return " / ".join([shown_row(row) for row in box])


def shown_row(row):
    return " ".join([str(letter) for letter in row])


def read(text):
    if not isinstance(text, str):
        raise NoText("only a text can be read")
    if text == EMPTY_BOX:
        return ()
    box = tuple([read_row(part) for part in text.split(" / ")])
    if not is_box(box):
        raise NoText("what is written there is no box")
    return box


def read_row(text):
    # Asked for among the written letters: int would also take 01, +1 and the digits of other scripts.
    written = [str(letter) for letter in range(1, GREATEST_LETTER + 1)]
    parts = text.split(" ")
    if not all([part in written for part in parts]):
        raise NoText("something there is no letter")
    return tuple([written.index(part) + 1 for part in parts])
