"""Point 4: letters put in, corners taken out."""

import unittest

from slidebox.errors import NoBox, NoPlace, NoWord, TooBig
from slidebox.putting import put_in, taken_out
from tests.helpers import (COLUMN_OF_16, ROW_OF_16, SQUARE_OF_16, corner_rows, refusal, small_boxes, stands_well,
                           strange_things)

# (the box, the letter, the box that it is put into, the place that came)
STEPS = [
    # into the empty box
    ((), 1, ((1,),), (0, 0)),
    ((), 30, ((30,),), (0, 0)),
    # at the end of the first row, behind a like letter too
    (((1,),), 2, ((1, 2),), (0, 1)),
    (((1,),), 1, ((1, 1),), (0, 1)),
    (((1, 2, 2), (3,)), 2, ((1, 2, 2, 2), (3,)), (0, 3)),
    (((1, 30), (30,)), 30, ((1, 30, 30), (30,)), (0, 2)),
    # in the place of a letter, which begins a new row
    (((2,),), 1, ((1,), (2,)), (1, 0)),
    (((30,),), 1, ((1,), (30,)), (1, 0)),
    (((1, 3),), 2, ((1, 2), (3,)), (1, 0)),
    # in the place of the first of like letters, and behind letters like the one put in
    (((1, 2, 2, 2),), 1, ((1, 1, 2, 2), (2,)), (1, 0)),
    (((1, 1, 2, 2, 3),), 1, ((1, 1, 1, 2, 3), (2,)), (1, 0)),
    (((1, 2, 2, 3, 3),), 2, ((1, 2, 2, 2, 3), (3,)), (1, 0)),
    # at the end of the second row, behind a like letter too
    (((1, 3), (2,)), 2, ((1, 2), (2, 3)), (1, 1)),
    (((1, 2, 3), (3,)), 2, ((1, 2, 2), (3, 3)), (1, 1)),
    # down through several rows
    (((1, 2), (3,)), 1, ((1, 1), (2,), (3,)), (2, 0)),
    (((2,), (3,), (4,)), 1, ((1,), (2,), (3,), (4,)), (3, 0)),
    (((1, 2, 5), (3, 4), (6,)), 1, ((1, 1, 5), (2, 4), (3,), (6,)), (3, 0)),
    (((1, 2, 2, 3), (2, 3, 5), (4, 4), (5, 6)), 2, ((1, 2, 2, 2), (2, 3, 3), (4, 4, 5), (5, 6)), (2, 2)),
    (((1, 2, 3), (2, 4), (4, 5)), 1, ((1, 1, 3), (2, 2), (4, 4), (5,)), (3, 0)),
    (((1, 1, 4), (2, 5), (6,)), 3, ((1, 1, 3), (2, 4), (5,), (6,)), (3, 0)),
    # the 16th place
    ((ROW_OF_16[:15],), 1, (ROW_OF_16,), (0, 15)),
    (tuple((letter,) for letter in range(2, 17)), 1, COLUMN_OF_16, (15, 0)),
]


class PuttingIn(unittest.TestCase):
    def test_steps(self):
        for box, letter, grown, place in STEPS:
            with self.subTest(box=box, letter=letter):
                self.assertEqual(put_in(box, letter), (grown, place))

    def test_kinds(self):
        for box, letter, grown, place in STEPS:
            answer = put_in(box, letter)
            self.assertIsInstance(answer, tuple)
            self.assertIsInstance(answer[0], tuple)
            self.assertIsInstance(answer[1], tuple)
            for row in answer[0]:
                self.assertIsInstance(row, tuple)

    def test_small_boxes(self):
        for box in small_boxes(3, 5):
            for letter in range(1, 5):
                grown, (row, column) = put_in(box, letter)
                self.assertTrue(stands_well(grown))
                self.assertEqual(sorted(sum(grown, ())), sorted(sum(box, ()) + (letter,)))
                before = [len(part) for part in box] + [0]
                after = [len(part) for part in grown] + [0] * (len(box) + 1 - len(grown))
                self.assertEqual(before[row], column)
                before[row] += 1
                self.assertEqual(after, before)

    def test_no_box(self):
        wrong = [5, (1, 2), [(1,)], ([1],), ((2, 1),), ((1,), (1,)), ((1,), (2, 3)), ((1,) * 17,), (ROW_OF_16, (2,))]
        for thing in strange_things() + wrong:
            with self.subTest(thing=thing):
                self.assertIs(refusal(put_in, thing, 1), NoBox)

    def test_no_letter(self):
        for box in [(), ((1, 2), (3,)), ((1,),)]:
            for thing in strange_things() + [0, 31, True, False, (1,), [1], "1", 1.0, ()]:
                with self.subTest(box=box, thing=thing):
                    self.assertIs(refusal(put_in, box, thing), NoWord)

    def test_too_big(self):
        for box in [(ROW_OF_16,), COLUMN_OF_16, SQUARE_OF_16]:
            for letter in [1, 2, 30]:
                self.assertIs(refusal(put_in, box, letter), TooBig)

    def test_which_refusal(self):
        for thing in strange_things():
            self.assertIs(refusal(put_in, thing, thing), NoBox)
            self.assertIs(refusal(put_in, (ROW_OF_16, (1,)), thing), NoBox)
            for box in [(ROW_OF_16,), COLUMN_OF_16, SQUARE_OF_16]:
                self.assertIs(refusal(put_in, box, thing), NoWord)
        self.assertIs(refusal(put_in, (ROW_OF_16, (2,)), 1), NoBox)


class TakingOut(unittest.TestCase):
    def test_steps(self):
        for box, letter, grown, place in STEPS:
            with self.subTest(grown=grown, row=place[0]):
                self.assertEqual(taken_out(grown, place[0]), (box, letter))

    def test_each_corner(self):
        box = ((1, 1, 2, 4), (2, 3), (4, 5), (6,))
        self.assertEqual(taken_out(box, 0), (((1, 1, 2), (2, 3), (4, 5), (6,)), 4))
        self.assertEqual(taken_out(box, 2), (((1, 1, 3, 4), (2, 5), (4,), (6,)), 2))
        self.assertEqual(taken_out(box, 3), (((1, 1, 3, 4), (2, 5), (4, 6)), 2))

    def test_the_last_of_like_letters_goes(self):
        self.assertEqual(taken_out(((1, 1, 1), (2,)), 1), (((1, 1, 2),), 1))
        self.assertEqual(taken_out(((1, 2, 2, 3), (3,)), 1), (((1, 2, 3, 3),), 2))

    def test_kinds(self):
        for box, letter, grown, place in STEPS:
            answer = taken_out(grown, place[0])
            self.assertIsInstance(answer, tuple)
            self.assertIsInstance(answer[0], tuple)
            for row in answer[0]:
                self.assertIsInstance(row, tuple)

    def test_no_box(self):
        wrong = [5, (1, 2), [(1,)], ([1],), ((2, 1),), ((1,), (1,)), ((1,), (2, 3)), ((1,) * 17,)]
        for thing in strange_things() + wrong:
            with self.subTest(thing=thing):
                self.assertIs(refusal(taken_out, thing, 0), NoBox)
                self.assertIs(refusal(taken_out, thing, thing), NoBox)
                self.assertIs(refusal(taken_out, thing, -1), NoBox)

    def test_no_corner_there(self):
        for box in [(), ((1, 1, 2), (2, 3), (4, 5), (6,)), COLUMN_OF_16, SQUARE_OF_16, (ROW_OF_16,)]:
            corners = corner_rows(box)
            for row in [-100, -2, -1] + list(range(20)) + [10 ** 30, -10 ** 30]:
                with self.subTest(box=box, row=row):
                    self.assertIs(refusal(taken_out, box, row), None if row in corners else NoPlace)

    def test_no_row_at_all(self):
        things = strange_things() + [True, False, 0.0, 1.0, "0", (0,), [0], {0: 0}, ()]
        for box in [(), ((1,),), ((1, 1), (2,)), ((1,), (2,))]:
            for thing in things:
                with self.subTest(box=box, thing=thing):
                    self.assertIs(refusal(taken_out, box, thing), NoPlace)


class ThereAndBack(unittest.TestCase):
    def test_taking_out_what_was_put_in(self):
        for box in small_boxes(3, 5):
            for letter in range(1, 5):
                grown, place = put_in(box, letter)
                self.assertEqual(taken_out(grown, place[0]), (box, letter))

    def test_putting_in_what_was_taken_out(self):
        for box in small_boxes(3, 5) + [COLUMN_OF_16, SQUARE_OF_16, (ROW_OF_16,)]:
            for row in corner_rows(box):
                left, letter = taken_out(box, row)
                self.assertTrue(stands_well(left))
                self.assertEqual(put_in(left, letter), (box, (row, len(box[row]) - 1)))
