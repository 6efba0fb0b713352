"""Points 2 and 3: words, shapes, boxes."""

import unittest
from itertools import product

from slidebox.errors import NoShape
from slidebox.things import is_box, is_full, is_shape, is_word, shape_of, turned_shape
from tests.helpers import (COLUMN_OF_16, EDGE_WORDS, LONG_WORDS, ROW_OF_16, SQUARE_OF_16, filled, full_boxes_of,
                           refusal, small_shapes, stands_well, strange_things)


class Answers(unittest.TestCase):
    def check(self, function, expected, things):
        for thing in things:
            with self.subTest(thing=thing):
                self.assertIs(function(thing), expected)


class Words(Answers):
    def test_words(self):
        self.check(is_word, True, EDGE_WORDS + LONG_WORDS + [(3, 1, 2), (1, 1), (1, 30)])

    def test_length(self):
        self.assertIs(is_word((7,) * 16), True)
        self.assertIs(is_word((7,) * 17), False)
        self.assertIs(is_word(tuple(range(1, 18))), False)

    def test_letters(self):
        for place in range(3):
            for letter, expected in [(0, False), (1, True), (30, True), (31, False), (-1, False), (10 ** 30, False)]:
                word = [5, 5, 5]
                word[place] = letter
                self.assertIs(is_word(tuple(word)), expected)

    def test_true_and_false_are_no_letters(self):
        self.check(is_word, False, [(True,), (False,), (1, True), (True, 1), (2, 1, False)])

    def test_other_things(self):
        self.check(is_word, False, strange_things() + [5, [1, 2, 3], "123", ((1, 2), (3,)), ((1,),)])


class Shapes(Answers):
    def test_shapes(self):
        self.check(is_shape, True, [(), (1,), (16,), (1,) * 16, (4, 4, 4, 4), (5, 4, 3, 2, 1, 1), (2, 1), (9, 7)])

    def test_all_small_ones(self):
        for length in range(5):
            for parts in product(range(-1, 7), repeat=length):
                falling = all(parts[k] >= parts[k + 1] for k in range(length - 1))
                self.assertIs(is_shape(parts), falling and min(parts, default=1) >= 1 and sum(parts) <= 16)

    def test_too_many_places(self):
        self.check(is_shape, False, [(17,), (1,) * 17, (16, 1), (9, 8), (5, 4, 3, 2, 1, 1, 1), (10 ** 30,)])

    def test_rising(self):
        self.check(is_shape, False, [(1, 2), (3, 1, 2), (2, 2, 3), (1, 15)])

    def test_less_than_1(self):
        self.check(is_shape, False, [(0,), (1, 0), (0, 1), (3, 2, 0), (-1,), (3, -1), (17, -1), (0, 0)])

    def test_true_and_false_are_no_numbers(self):
        self.check(is_shape, False, [(True,), (2, True), (True, True), (True, 1), (1, False), (False,)])

    def test_other_things(self):
        wrong = [5, [2, 1], "21", ((1, 2), (3,)), (2, "1"), (2, None), (2, [1])]
        self.check(is_shape, False, strange_things() + wrong)


class Boxes(Answers):
    def test_boxes(self):
        self.check(is_box, True, [
            (), ((1,),), ((30,),), ((1, 1, 2), (2, 3)), ((1, 2), (3,)), ((5, 5), (6, 6)), ((1, 30), (30,)),
            (ROW_OF_16,), COLUMN_OF_16, SQUARE_OF_16,
        ])

    def test_all_small_ones(self):
        for shape in small_shapes(4):
            for letters in product(range(1, 4), repeat=sum(shape)):
                rows = filled(shape, letters)
                self.assertIs(is_box(rows), stands_well(rows))

    def test_known_numbers(self):
        for shape, number in [((2, 1), 8), ((2, 2), 6), ((3,), 10), ((1, 1, 1), 1), ((3, 1), 15)]:
            fillings = [filled(shape, parts) for parts in product(range(1, 4), repeat=sum(shape))]
            self.assertEqual(len([rows for rows in fillings if is_box(rows)]), number)

    def test_too_many_places(self):
        self.check(is_box, False, [
            ((1,) * 17,), tuple((letter,) for letter in range(1, 18)), (ROW_OF_16, (2,)),
            SQUARE_OF_16[:3] + ((4,) * 5,), ((1,) * 5,) + SQUARE_OF_16[1:], ((1,) * 9, (2,) * 8),
        ])

    def test_letters_at_the_edges(self):
        self.check(is_box, False, [((0,),), ((31,),), ((0, 1),), ((1, 31),), ((1,), (31,)), ((0,), (1,)), ((-1,),)])

    def test_lengths_that_are_no_shape(self):
        self.check(is_box, False, [
            ((1,), (2, 3)), ((1, 1), (2,), (3, 4)), ((),), ((1,), ()), ((), (1,)), ((1, 1), (), (3,)),
        ])

    def test_falling_rows(self):
        self.check(is_box, False, [((2, 1),), ((1, 3, 2),), ((1, 1), (3, 2)), ((1, 2, 3, 3, 2), (4,))])

    def test_like_letters(self):
        self.check(is_box, True, [((1, 1),), ((1, 2, 2), (3, 3)), ((1, 2), (2,))])
        self.check(is_box, False, [((1,), (1,)), ((1, 2), (2, 2)), ((1, 1), (2, 2), (2,)), ((1, 1), (2, 1))])

    def test_falling_columns(self):
        self.check(is_box, False, [((2,), (1,)), ((1, 3), (2, 2)), ((1,), (3,), (2,)), ((3, 3), (4, 4), (1,))])

    def test_lists(self):
        self.check(is_box, False, [
            [], [(1, 2), (3,)], ([1, 2], (3,)), ((1, 2), [3]), [[1, 2], [3]], ([],), ((1, 2), []),
        ])

    def test_true_and_false_are_no_letters(self):
        self.check(is_box, False, [((True,),), ((True, 2), (3,)), ((1, True),), ((1,), (True,)), ((False,),), (True,)])

    def test_other_things(self):
        self.check(is_box, False, strange_things() + [5, (1, 2), "12 / 3", ("12",), ({1: 1},), ((1, 2), "3")])


class FullBoxes(Answers):
    def test_full_ones(self):
        self.check(is_full, True, [
            (), ((1,),), ((1, 2),), ((1,), (2,)), ((1, 3), (2,)), ((1, 2), (3,)), (tuple(range(1, 17)),), COLUMN_OF_16,
            ((1, 2, 3, 4), (5, 6, 7, 8), (9, 10, 11, 12), (13, 14, 15, 16)),
        ])

    def test_all_small_ones(self):
        for shape in small_shapes(5):
            self.check(is_full, True, full_boxes_of(shape))

    def test_number_of_small_ones(self):
        for shape, number in [((2, 1), 2), ((2, 2), 2), ((3, 1), 3), ((3,), 1), ((1, 1, 1), 1), ((2, 1, 1), 3)]:
            size = sum(shape)
            fillings = [filled(shape, parts) for parts in product(range(1, size + 2), repeat=size)]
            self.assertEqual(len([rows for rows in fillings if is_full(rows)]), number)

    def test_boxes_that_are_not_full(self):
        self.check(is_full, False, [
            ((2,),), ((1, 1),), ((1, 3),), ((2, 3),), ((1, 2), (4,)), ((1, 2), (2,)), ((1, 2, 2), (3,)), (ROW_OF_16,),
            SQUARE_OF_16, (tuple(range(1, 16)) + (17,),), (tuple(range(2, 18)),),
        ])

    def test_numbers_that_are_no_box(self):
        self.check(is_full, False, [
            ((2, 1),), ((2,), (1,)), ((1,), (2, 3)), ((3, 1), (2,)), (tuple(range(1, 18)),), ((1, 2), ()), [(1, 2)],
            ([1, 2],), ((True, 2), (3,)), ((1, 2), [3]),
        ])

    def test_other_things(self):
        self.check(is_full, False, strange_things() + [1, (1, 2), "1"])


class ShapesOf(unittest.TestCase):
    def test_shape_of(self):
        for rows, shape in [((), ()), (((1,),), (1,)), (((1, 1, 2), (2, 3)), (3, 2)), ((ROW_OF_16,), (16,)),
                            (COLUMN_OF_16, (1,) * 16), (SQUARE_OF_16, (4, 4, 4, 4)), (((1, 2), ()), (2, 0))]:
            with self.subTest(rows=rows):
                self.assertEqual(shape_of(rows), shape)
                self.assertIsInstance(shape_of(rows), tuple)

    def test_turned_shape(self):
        for shape, turned in [((), ()), ((1,), (1,)), ((16,), (1,) * 16), ((1,) * 16, (16,)), ((3, 2), (2, 2, 1)),
                              ((4, 4, 4, 4), (4, 4, 4, 4)), ((5, 1), (2, 1, 1, 1, 1)), ((4, 2, 1), (3, 2, 1, 1)),
                              ((6, 4, 3, 2, 1), (5, 4, 3, 2, 1, 1)), ((9, 7), (2,) * 7 + (1, 1)), ((2,) * 8, (8, 8))]:
            with self.subTest(shape=shape):
                self.assertEqual(turned_shape(shape), turned)
                self.assertIsInstance(turned_shape(shape), tuple)

    def test_turned_shapes_place_by_place(self):
        for shape in small_shapes(6):
            turned = turned_shape(shape)
            self.assertIs(is_shape(turned), True)
            places = [(r, c) for r, length in enumerate(shape) for c in range(length)]
            self.assertEqual(sorted((c, r) for r, c in places),
                             [(r, c) for r, length in enumerate(turned) for c in range(length)])

    def test_turned_twice(self):
        for many in range(17):
            # As many rows of length k as go into `many`, and what is left over.
            for k in range(1, many + 1):
                shape = (k,) * (many // k) + ((many % k,) if many % k else ())
                with self.subTest(shape=shape):
                    self.assertEqual(sum(turned_shape(shape)), many)
                    self.assertEqual(turned_shape(turned_shape(shape)), shape)

    def test_no_shape(self):
        wrong = [5, [2, 1], [], "21", (1, 2), (0,), (2, 0), (17,), (1,) * 17, (True,), (2, True), (2, None), ((2, 1),)]
        for thing in strange_things() + wrong:
            with self.subTest(thing=thing):
                self.assertIs(refusal(turned_shape, thing), NoShape)
