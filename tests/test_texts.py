"""Point 16: boxes written as texts, and read back."""

import unittest
from itertools import product

from slidebox.errors import NoBox, NoText
from slidebox.pairs import boxes
from slidebox.texts import read, shown
from slidebox.things import is_box, shape_of
from tests.helpers import (COLUMN_OF_16, EDGE_WORDS, LONG_WORDS, ROW_OF_16, SQUARE_OF_16, WRONG_BOXES, refusal,
                           small_boxes, strange_things)

KNOWN = [
    ((), "-"), (((1,),), "1"), (((30,),), "30"), (((1, 1, 2), (2, 3)), "1 1 2 / 2 3"), (((1,), (2,)), "1 / 2"),
    (((9, 10), (10, 29), (30,)), "9 10 / 10 29 / 30"), ((ROW_OF_16,), "1 1 1 1 1 1 1 1 1 1 1 1 1 1 1 1"),
    (COLUMN_OF_16, "1 / 2 / 3 / 4 / 5 / 6 / 7 / 8 / 9 / 10 / 11 / 12 / 13 / 14 / 15 / 16"),
    (SQUARE_OF_16, "1 1 1 1 / 2 2 2 2 / 3 3 3 3 / 30 30 30 30"),
]
LONG_BOXES = [boxes(word)[part] for word in EDGE_WORDS + LONG_WORDS for part in (0, 1)]
WRONG_TEXTS = [
    # nothing, and blanks alone
    "", " ", "  ", "\n", "\t", "\x00",
    # another blank
    "1\t2", "1\n2", "1\r2", "1\u00a02", "1\u20032", "1\u30002", "1\u200b2", "1\x0b2", "1\x0c2",
    "1 /\t2", "1\t/ 2", "1\n/\n2", "1  2", "1  / 2", "1 /  2", "1   2", "1 / 2  3",
    # a blank, or another sign, at either end
    " 1", "1 ", " 1 / 2", "1 / 2 ", "1\n", "\n1", "1\t", "\ufeff1", "1\x00", " -", "- ", "-\n", "\n-", " 1 ",
    # no blank at a /
    "1/2", "1 /2", "1/ 2", "1 2/3", "1 2 /3 / 4", "1 / 2/3",
    # rows without letters
    "/", " / ", "1 /", "1 / ", "/ 1", " / 1", "1 / / 2", "1 /  / 2", "1 // 2", "1 / 2 /", "1 / 2 / ", "// 1",
    # what is no letter
    "0", "01", "31", "00", "1 0", "0 1", "1 31", "1 02", "001", "1 / 02", "1 / 31", "100", "030", "-1", "+1",
    "1.0", "1.", "1e0", "0x1", "1_0", "a", "x / y", "1 a", "1a", "one", "None", "True", "1,2", "1, 2", "1;2", "(1,)",
    "((1,),)", "1 | 2", "1 \\ 2", "9" * 5000, "1" * 40, "'1'", "\"1\"",
    # digits of other scripts
    "\u0661", "\u0967", "\uff11", "\u00b2", "\u00b9", "\u2460", "\u2081", "1 \uff12", "\u06611", "1\u0660",
    "\U0001d7cf", "1 \u2215 2", "1 \uff0f 2", "1 \u2044 2",
    # rows that are no box
    "2 1", "1 / 1", "2 / 1", "1 / 2 3", "1 1 / 2 2 2", "1 2 / 2 2", "1 3 2", "1 2 / 3 / 4 5", "12 / 3", "10 9",
    # 17 places
    " ".join(["1"] * 17), " / ".join(str(letter) for letter in range(1, 18)), " ".join(["1"] * 16) + " / 2",
    "1 1 1 1 1 / 2 2 2 2 / 3 3 3 3 / 4 4 4 4", " ".join(["1"] * 1000),
    # - within other signs
    "--", "- -", "- / -", "1 -", "- 1", "1 / -", "- / 1", "1-2", "1 - 2", "-/", "/ -", "\u2212", "\u2013",
    "\u2014", "-0",
]
NO_TEXTS = [
    5, 0, 1, -1, None, True, False, 1.0, [], ["1"], ["-"], [1, 2], (), (1,), ((1,),), ("1",), ("-",), {}, {"1": 1},
    {"-": ()}, b"1", b"-", b"", bytearray(b"1"), ((1, 2), (3,)), ("1", "2"), [("1",)],
]


class Shown(unittest.TestCase):
    def test_known_ones(self):
        for box, text in KNOWN:
            with self.subTest(box=box):
                self.assertEqual(shown(box), text)
                self.assertIs(type(shown(box)), str)

    def test_rows_and_letters(self):
        for box in small_boxes(3, 5)[1:] + [box for box in LONG_BOXES if box]:
            rows = shown(box).split(" / ")
            self.assertEqual([row.split(" ") for row in rows], [[str(letter) for letter in row] for row in box])

    def test_no_box(self):
        for thing in WRONG_BOXES + strange_things() + ["-", "1 / 2", "1"]:
            with self.subTest(thing=thing):
                self.assertIs(refusal(shown, thing), NoBox)


class Read(unittest.TestCase):
    def test_known_ones(self):
        for box, text in KNOWN:
            with self.subTest(text=text):
                self.assertEqual(read(text), box)

    def test_what_is_shown_is_read_back(self):
        for box in small_boxes(3, 5) + LONG_BOXES + [SQUARE_OF_16, COLUMN_OF_16, (ROW_OF_16,)]:
            self.assertEqual(read(shown(box)), box)
            self.assertIs(is_box(read(shown(box))), True)

    def test_boxes_of_0_to_16_places(self):
        self.assertEqual(sorted(set(sum(shape_of(box)) for box in LONG_BOXES)), list(range(17)))

    def test_each_letter(self):
        for letter in range(1, 31):
            self.assertEqual(read(str(letter)), ((letter,),))
            self.assertEqual(shown(((letter,),)), str(letter))

    def test_all_small_texts(self):
        known = {shown(box): box for box in small_boxes(2, 5)}
        for length in range(7):
            for signs in product("12 /-", repeat=length):
                text = "".join(signs)
                if text in known:
                    self.assertEqual(read(text), known[text])
                elif not any(part in text for part in ("11", "12", "21", "22")):
                    self.assertIs(refusal(read, text), NoText)

    def test_one_sign_changed(self):
        # What is read is always what would be written: nothing else leads to a box.
        for box, text in KNOWN:
            for place in range(len(text) + 1):
                for sign in ["", " ", "/", "-", "0", "1", "2", "\t", "\u0661"]:
                    for other in [text[:place] + sign + text[place:], text[:place] + sign + text[place + 1:]]:
                        if refusal(read, other) is None:
                            self.assertEqual(shown(read(other)), other)
                        else:
                            self.assertIs(refusal(read, other), NoText)

    def test_no_text(self):
        for text in WRONG_TEXTS:
            with self.subTest(text=text):
                self.assertIs(refusal(read, text), NoText)

    def test_what_is_no_text_at_all(self):
        for thing in NO_TEXTS + [thing for thing in strange_things() if thing != "1"]:
            with self.subTest(thing=thing):
                self.assertIs(refusal(read, thing), NoText)
