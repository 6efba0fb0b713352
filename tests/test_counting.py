"""Point 12: hooks, the number of full boxes, and full boxes gone through."""

import unittest
from math import factorial, prod

from slidebox.counting import full_boxes, hooks, how_many
from slidebox.errors import NoShape, TooMany
from slidebox.things import is_full, shape_of
from tests.helpers import WRONG_SHAPES, full_boxes_of, refusal, shapes_of, small_shapes, strange_things

SHAPES = small_shapes(16)
COUNTING = tuple(range(1, 17))


def literal_hook(shape, row, column):
    """The hook of a place, its places counted one by one."""
    places = [(r, c) for r, length in enumerate(shape) for c in range(length)]
    return 1 + len([(r, c) for r, c in places if (r == row and c > column) or (c == column and r > row)])


def numbers_by_corners():
    """How many full boxes each shape has: the greatest number stands in any one of its corners."""
    numbers = {(): 1}
    for shape in SHAPES[1:]:
        ends = [r for r, length in enumerate(shape) if r + 1 == len(shape) or length > shape[r + 1]]
        left = [shape[:r] + (shape[r] - 1,) + shape[r + 1:] for r in ends]
        numbers[shape] = sum(numbers[tuple(length for length in less if length)] for less in left)
    return numbers


NUMBERS = numbers_by_corners()


class Hooks(unittest.TestCase):
    def test_known_ones(self):
        for shape, answer in [
            ((), ()), ((1,), ((1,),)), ((3,), ((3, 2, 1),)), ((1, 1), ((2,), (1,))), ((2, 1), ((3, 1), (1,))),
            ((2, 2), ((3, 2), (2, 1))), ((4, 2, 1), ((6, 4, 2, 1), (3, 1), (1,))),
            ((16,), (COUNTING[::-1],)), ((1,) * 16, tuple((k,) for k in COUNTING[::-1])),
            ((4, 4, 4, 4), ((7, 6, 5, 4), (6, 5, 4, 3), (5, 4, 3, 2), (4, 3, 2, 1))),
        ]:
            with self.subTest(shape=shape):
                self.assertEqual(hooks(shape), answer)

    def test_place_by_place(self):
        for shape in small_shapes(10) + shapes_of(16):
            self.assertEqual(hooks(shape), tuple(tuple(literal_hook(shape, r, c) for c in range(length))
                                                 for r, length in enumerate(shape)))

    def test_kinds(self):
        for shape in SHAPES:
            answer = hooks(shape)
            self.assertIs(type(answer), tuple)
            self.assertTrue(all(type(row) is tuple for row in answer))
            self.assertEqual(shape_of(answer), shape)

    def test_no_shape(self):
        for thing in WRONG_SHAPES + strange_things():
            with self.subTest(thing=thing):
                self.assertIs(refusal(hooks, thing), NoShape)


class Numbers(unittest.TestCase):
    def test_known_ones(self):
        for shape, number in [((), 1), ((1,), 1), ((16,), 1), ((1,) * 16, 1), ((2, 1), 2), ((2, 2), 2), ((3, 2), 5),
                              ((3, 2, 1), 16), ((4, 4, 4, 4), 24024), ((8, 8), 1430), ((5, 4, 3, 2, 1), 292864)]:
            with self.subTest(shape=shape):
                self.assertEqual(how_many(shape), number)

    def test_all_shapes(self):
        for shape in SHAPES:
            number = how_many(shape)
            self.assertIs(type(number), int)
            self.assertEqual(number, NUMBERS[shape])
            self.assertEqual(number * prod(prod(row) for row in hooks(shape)), factorial(sum(shape)))

    def test_as_many_as_there_are(self):
        for shape in small_shapes(8):
            self.assertEqual(how_many(shape), len(full_boxes_of(shape)))

    def test_pairs_of_them_are_as_many_as_words(self):
        for places in range(17):
            self.assertEqual(sum(how_many(shape) ** 2 for shape in shapes_of(places)), factorial(places))

    def test_no_shape(self):
        for thing in WRONG_SHAPES + strange_things():
            with self.subTest(thing=thing):
                self.assertIs(refusal(how_many, thing), NoShape)


class FullBoxes(unittest.TestCase):
    def test_known_ones(self):
        for shape, answer in [
            ((), [()]), ((1,), [((1,),)]), ((2, 1), [((1, 2), (3,)), ((1, 3), (2,))]),
            ((2, 2), [((1, 2), (3, 4)), ((1, 3), (2, 4))]),
            ((3, 1), [((1, 2, 3), (4,)), ((1, 2, 4), (3,)), ((1, 3, 4), (2,))]),
            ((2, 1, 1), [((1, 2), (3,), (4,)), ((1, 3), (2,), (4,)), ((1, 4), (2,), (3,))]),
            ((16,), [(COUNTING,)]), ((1,) * 16, [tuple((k,) for k in COUNTING)]),
        ]:
            with self.subTest(shape=shape):
                self.assertEqual(full_boxes(shape), answer)

    def test_all_of_them_in_order(self):
        for shape in SHAPES:
            if NUMBERS[shape] <= 200:
                with self.subTest(shape=shape):
                    found = full_boxes(shape)
                    self.assertIs(type(found), list)
                    self.assertEqual(found, sorted(full_boxes_of(shape)))

    def test_what_they_are(self):
        # Full boxes of the shape, each one once, as many as there are: so none is missing.
        for shape in SHAPES:
            if NUMBERS[shape] <= 200:
                found = full_boxes(shape)
                self.assertTrue(all(is_full(box) and shape_of(box) == shape for box in found))
                self.assertTrue(all(one < other for one, other in zip(found, found[1:])))
                self.assertEqual(len(found), NUMBERS[shape])

    def test_too_many(self):
        for shape in SHAPES:
            if NUMBERS[shape] > 200:
                with self.subTest(shape=shape):
                    self.assertIs(refusal(full_boxes, shape), TooMany)

    def test_at_the_edge(self):
        # No shape has just 200: 189 are the most that are gone through, 208 the fewest that are refused.
        numbers = sorted(set(NUMBERS.values()))
        self.assertEqual([number for number in numbers if 180 <= number <= 210], [189, 208, 210])
        self.assertEqual(len(full_boxes((5, 2, 1, 1))), 189)
        self.assertEqual(len(full_boxes((4, 2, 1, 1, 1))), 189)
        for shape in [(10, 3), (2, 2, 2) + (1,) * 7, (4, 3, 3), (7, 1, 1, 1, 1)]:
            self.assertIs(refusal(full_boxes, shape), TooMany)

    def test_no_shape(self):
        for thing in WRONG_SHAPES + strange_things() + [(5, 5, 5, 2), (4, 4, 4, 5), (8, 8, True)]:
            with self.subTest(thing=thing):
                self.assertIs(refusal(full_boxes, thing), NoShape)
