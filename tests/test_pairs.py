"""Points 5 and 6: the boxes of a word, the word told back, readings."""

import unittest

from slidebox.errors import NoBox, NoWord, Unlike
from slidebox.pairs import boxes, reading, word_of
from slidebox.things import is_box, is_full, shape_of
from tests.helpers import (COLUMN_OF_16, EDGE_WORDS, LONG_WORDS, ROW_OF_16, SQUARE_OF_16, boxes_by_rises,
                           full_boxes_of, refusal, small_boxes, small_words, strange_things)

COUNTING = tuple(range(1, 17))
KNOWN = [
    ((), (), ()),
    ((7,), ((7,),), ((1,),)),
    ((1, 1), ((1, 1),), ((1, 2),)),
    ((2, 1), ((1,), (2,)), ((1,), (2,))),
    ((3, 1, 2), ((1, 2), (3,)), ((1, 3), (2,))),
    ((2, 3, 1), ((1, 3), (2,)), ((1, 2), (3,))),
    ((2, 1, 2, 1), ((1, 1), (2, 2)), ((1, 3), (2, 4))),
    ((1, 2, 1, 2), ((1, 1, 2), (2,)), ((1, 2, 4), (3,))),
    ((5, 3, 4, 9, 8, 7), ((3, 4, 7), (5, 8), (9,)), ((1, 3, 4), (2, 5), (6,))),
    ((4, 2, 7, 3, 6, 1, 5), ((1, 3, 5), (2, 6), (4, 7)), ((1, 3, 5), (2, 4), (6, 7))),
    (COUNTING, (COUNTING,), (COUNTING,)),
    ((30,) * 16, ((30,) * 16,), (COUNTING,)),
    (COUNTING[::-1], COLUMN_OF_16, COLUMN_OF_16),
]
WRONG_WORDS = [5, [1, 2], "12", (0,), (31,), (1, 31), (1,) * 17, (True,), (2, True), (1, None), ((1, 2), (3,)), ((1,),)]
WRONG_BOXES = [5, (1, 2), [(1,)], [], ([1],), ((2, 1),), ((1,), (1,)), ((1,), (2, 3)), ((1,) * 17,), ((True,),), "1"]
NOT_FULL = [((2,),), ((1, 1),), ((1, 3),), ((1, 2), (4,)), (ROW_OF_16,), SQUARE_OF_16]


class BoxesOfWords(unittest.TestCase):
    def test_known_ones(self):
        for word, box, times in KNOWN:
            with self.subTest(word=word):
                self.assertEqual(boxes(word), (box, times))

    def test_small_words_by_rises(self):
        for word in small_words(3, 5) + small_words(4, 4) + [(3, 1, 5, 2, 4), (5, 2, 4, 1, 3), (2, 6, 4, 1, 5, 3)]:
            self.assertEqual(boxes(word), boxes_by_rises(word))

    def test_what_they_are(self):
        for word in EDGE_WORDS + LONG_WORDS:
            with self.subTest(word=word):
                box, times = boxes(word)
                self.assertIs(is_box(box), True)
                self.assertIs(is_full(times), True)
                self.assertEqual(shape_of(box), shape_of(times))
                self.assertEqual(sorted(sum(box, ())), sorted(word))
                self.assertIsInstance(boxes(word), tuple)

    def test_each_length(self):
        self.assertEqual(sorted(set(len(word) for word in LONG_WORDS)), list(range(17)))
        for word in LONG_WORDS:
            self.assertEqual(len(sum(boxes(word)[1], ())), len(word))

    def test_no_word(self):
        for thing in strange_things() + WRONG_WORDS:
            with self.subTest(thing=thing):
                self.assertIs(refusal(boxes, thing), NoWord)


class WordsToldBack(unittest.TestCase):
    def test_known_ones(self):
        for word, box, times in KNOWN:
            with self.subTest(word=word):
                self.assertEqual(word_of(box, times), word)
                self.assertIsInstance(word_of(box, times), tuple)

    def test_word_of_the_boxes_of_a_word(self):
        for word in EDGE_WORDS + LONG_WORDS + small_words(3, 6):
            self.assertEqual(word_of(*boxes(word)), word)

    def test_boxes_of_the_word_of_boxes(self):
        for box in small_boxes(3, 5):
            for times in full_boxes_of(shape_of(box)):
                self.assertEqual(boxes(word_of(box, times)), (box, times))

    def test_boxes_of_16_places(self):
        rows_first = ((1, 2, 3, 4), (5, 6, 7, 8), (9, 10, 11, 12), (13, 14, 15, 16))
        columns_first = ((1, 5, 9, 13), (2, 6, 10, 14), (3, 7, 11, 15), (4, 8, 12, 16))
        mixed = ((1, 2, 5, 10), (3, 4, 7, 12), (6, 9, 11, 14), (8, 13, 15, 16))
        for times in [rows_first, columns_first, mixed]:
            for box in [rows_first, columns_first, mixed, SQUARE_OF_16]:
                self.assertEqual(boxes(word_of(box, times)), (box, times))

    def test_no_box(self):
        for thing in strange_things() + WRONG_BOXES:
            with self.subTest(thing=thing):
                self.assertIs(refusal(word_of, thing, ((1,),)), NoBox)
                self.assertIs(refusal(word_of, ((1,),), thing), NoBox)
                self.assertIs(refusal(word_of, thing, ()), NoBox)
                self.assertIs(refusal(word_of, (), thing), NoBox)
                self.assertIs(refusal(word_of, thing, thing), NoBox)

    def test_no_full_box(self):
        for times in NOT_FULL:
            with self.subTest(times=times):
                self.assertIs(refusal(word_of, times, times), NoBox)
                self.assertIs(refusal(word_of, (), times), NoBox)
                self.assertIs(refusal(word_of, ((1, 2, 2), (3,)), times), NoBox)

    def test_the_first_need_not_be_full(self):
        self.assertEqual(word_of(((5, 5),), ((1, 2),)), (5, 5))

    def test_unlike(self):
        for box, times in [((), ((1,),)), (((1,),), ()), (((1, 2),), ((1,), (2,))), (((1,), (2,)), ((1, 2),)),
                           (((1, 1), (2,)), ((1, 2, 3),)), (((1, 1), (2,)), ((1, 2), (3, 4))),
                           (((1, 1), (2, 2)), ((1, 2), (3,))), (SQUARE_OF_16, COLUMN_OF_16)]:
            with self.subTest(box=box, times=times):
                self.assertIs(refusal(word_of, box, times), Unlike)


class Readings(unittest.TestCase):
    def test_known_ones(self):
        for box, word in [((), ()), (((4,),), (4,)), (((1, 1, 2), (2, 3)), (2, 3, 1, 1, 2)),
                          (((1, 2), (3, 4), (5,)), (5, 3, 4, 1, 2)), ((ROW_OF_16,), ROW_OF_16),
                          (COLUMN_OF_16, COUNTING[::-1]),
                          (SQUARE_OF_16, (30,) * 4 + (3,) * 4 + (2,) * 4 + (1,) * 4)]:
            with self.subTest(box=box):
                self.assertEqual(reading(box), word)
                self.assertIsInstance(reading(box), tuple)

    def test_it_is_put_into_the_box(self):
        long_ones = [boxes(word)[0] for word in EDGE_WORDS + LONG_WORDS]
        for box in small_boxes(3, 5) + long_ones + [SQUARE_OF_16, COLUMN_OF_16]:
            self.assertEqual(boxes(reading(box))[0], box)

    def test_no_box(self):
        for thing in strange_things() + WRONG_BOXES:
            with self.subTest(thing=thing):
                self.assertIs(refusal(reading, thing), NoBox)
