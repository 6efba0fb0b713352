"""Point 13: products of boxes, and lattice boxes."""

import unittest
from collections import Counter
from itertools import product as choices
from math import comb

from slidebox.counting import how_many
from slidebox.errors import NoBox, NoShape, TooBig, TooMany
from slidebox.pairs import boxes, reading
from slidebox.products import lattice_boxes, product
from slidebox.sliding import is_holed, together
from slidebox.things import is_box, shape_of
from tests.helpers import (COLUMN_OF_16, EDGE_WORDS, LONG_WORDS, ROW_OF_16, SQUARE_OF_16, WRONG_BOXES, WRONG_SHAPES,
                           boxes_by_rises, filled, inner_shapes, refusal, row_lengths, shapes_of, small_boxes,
                           small_shapes, stands_well, strange_things)

LONG_BOXES = [boxes(word)[0] for word in EDGE_WORDS + LONG_WORDS] + [SQUARE_OF_16, COLUMN_OF_16, (ROW_OF_16,)]
SMALL = small_boxes(3, 5)
SMALL_SHAPES = small_shapes(5)


def places(box):
    return sum(shape_of(box))


def comes_as_told(rows, weight):
    """Whether the letters stand as often as the weight tells, and come so from the right."""
    came = []
    for row in rows:
        for letter in row[::-1]:
            came.append(letter)
            if letter > 1 and came.count(letter) > came.count(letter - 1):
                return False
    return sorted(came) == [letter for letter, often in enumerate(weight, start=1) for k in range(often)]


def literal_lattice_boxes(outer, inner, weight):
    """All letters are tried in all places."""
    if inner not in inner_shapes(outer):
        return []
    lengths = row_lengths(outer, inner)
    fillings = [filled(lengths, parts) for parts in choices(range(1, len(weight) + 1), repeat=sum(lengths))]
    return sorted((inner, rows) for rows in fillings if stands_well(rows, inner) and comes_as_told(rows, weight))


class Products(unittest.TestCase):
    def test_known_ones(self):
        for one, other, answer in [
            ((), (), ()), (((1,),), ((1,),), ((1, 1),)), (((2,),), ((1,),), ((1,), (2,))),
            (((1,),), ((2,),), ((1, 2),)), (((1, 3), (2,)), ((1,),), ((1, 1), (2, 3))),
            (((1, 2), (3,)), ((2,),), ((1, 2, 2), (3,))), (((1, 2), (3,)), ((1,),), ((1, 1), (2,), (3,))),
            (((1, 2),), ((1,), (2,)), ((1, 1, 2), (2,))), (((30,),), ((1, 30),), ((1, 30), (30,))),
            (((1, 2, 2, 3), (2, 3, 5, 5), (4, 4, 6), (5, 6)), ((1, 3), (2,)),
             ((1, 1, 2, 2, 3), (2, 2, 3, 5), (3, 4, 5), (4, 6, 6), (5,))),
        ]:
            with self.subTest(one=one, other=other):
                self.assertEqual(product(one, other), answer)

    def test_small_ones_by_rises(self):
        for one in SMALL:
            for other in SMALL:
                if places(one) + places(other) <= 5:
                    self.assertEqual(product(one, other), boxes_by_rises(reading(one) + reading(other))[0])

    def test_box_of_both_readings(self):
        for one in LONG_BOXES:
            for other in LONG_BOXES:
                if places(one) + places(other) <= 16:
                    found = product(one, other)
                    self.assertIs(is_box(found), True)
                    self.assertEqual(found, boxes(reading(one) + reading(other))[0])

    def test_slid_together(self):
        # The first box stands below and left of the second one, with a hole beside it.
        for one in SMALL:
            for other in SMALL:
                if one and places(one) + places(other) + len(one[0]) * len(other) <= 16:
                    holed = ((len(one[0]),) * len(other), other + one)
                    self.assertEqual(together(holed), product(one, other))

    def test_brackets_as_one_likes(self):
        small = [box for box in SMALL if places(box) <= 2]
        for one, other, third in choices(small, repeat=3):
            self.assertEqual(product(product(one, other), third), product(one, product(other, third)))
        third_parts = [box for box in LONG_BOXES if 3 <= places(box) <= 6]
        for one, other, third in choices(third_parts, repeat=3):
            if places(one) + places(other) + places(third) <= 16:
                self.assertEqual(product(product(one, other), third), product(one, product(other, third)))

    def test_the_empty_box_changes_nothing(self):
        for box in SMALL + LONG_BOXES:
            self.assertEqual(product(box, ()), box)
            self.assertEqual(product((), box), box)

    def test_16_and_17_places(self):
        row = ((1,) * 8,)
        self.assertEqual(product(row, row), (ROW_OF_16,))
        self.assertEqual(product((ROW_OF_16[1:],), ((2,),)), (ROW_OF_16[1:] + (2,),))
        for one, other in [(row, ((1,) * 9,)), (((1,) * 9,), row), ((ROW_OF_16,), ((1,),)), (((1,),), COLUMN_OF_16),
                           (SQUARE_OF_16, ((1,),)), (SQUARE_OF_16, SQUARE_OF_16)]:
            with self.subTest(one=one, other=other):
                self.assertIs(refusal(product, one, other), TooBig)

    def test_no_box(self):
        for thing in WRONG_BOXES + strange_things():
            with self.subTest(thing=thing):
                for box in [(), ((1, 2), (3,)), SQUARE_OF_16]:
                    self.assertIs(refusal(product, thing, box), NoBox)
                    self.assertIs(refusal(product, box, thing), NoBox)
                self.assertIs(refusal(product, thing, thing), NoBox)


class LatticeBoxes(unittest.TestCase):
    def test_known_ones(self):
        for outer, inner, weight, rows in [
            ((), (), (), [()]), ((1,), (), (1,), [((1,),)]), ((2, 1), (), (2, 1), [((1, 1), (2,))]),
            ((1, 1), (), (2,), []), ((2,), (), (1, 1), []), ((2, 1), (1,), (2,), [((1,), (1,))]),
            ((2, 1), (1,), (1, 1), [((1,), (2,))]), ((2, 1), (2, 1), (), [((), ())]),
            ((3, 2, 1), (2, 1), (2, 1), [((1,), (1,), (2,)), ((1,), (2,), (1,))]),
            ((4, 2, 1), (2, 1), (2, 1, 1), [((1, 1), (2,), (3,))]),
            ((4, 3, 1), (3, 1), (2, 2), [((1,), (1, 2), (2,))]),
            ((3, 2, 2, 1), (2, 2), (2, 1, 1), [((1,), (), (1, 2), (3,))]),
            ((8,), (3,), (5,), [((1, 1, 1, 1, 1),)]),
            ((1,) * 8, (1, 1), (1,) * 6, [((), (), (1,), (2,), (3,), (4,), (5,), (6,))]),
            ((4, 4), (4,), (4,), [((), (1, 1, 1, 1))]),
        ]:
            with self.subTest(outer=outer, inner=inner, weight=weight):
                self.assertEqual(lattice_boxes(outer, inner, weight), [(inner, part) for part in rows])

    def test_all_letters_tried(self):
        for outer, inner, weight in choices(SMALL_SHAPES, repeat=3):
            with self.subTest(outer=outer, inner=inner, weight=weight):
                self.assertEqual(lattice_boxes(outer, inner, weight), literal_lattice_boxes(outer, inner, weight))

    def test_all_letters_tried_at_8_places(self):
        for outer, inner, weight in [((4, 3, 1), (2, 1), (3, 2)), ((4, 2, 1, 1), (2, 1), (2, 2, 1)),
                                     ((3, 3, 2), (2, 1), (2, 2, 1)), ((4, 3, 1), (3, 1), (3, 1)),
                                     ((3, 2, 2, 1), (2, 1, 1), (2, 1, 1)), ((4, 2, 2), (2, 2), (2, 2)),
                                     ((5, 2, 1), (3, 1), (3, 1)), ((3, 2, 2, 1), (2, 1), (2, 2, 1))]:
            with self.subTest(outer=outer, inner=inner, weight=weight):
                self.assertEqual(lattice_boxes(outer, inner, weight), literal_lattice_boxes(outer, inner, weight))

    def test_as_many_as_pairs(self):
        pairs = Counter()
        for one, other in choices(SMALL, repeat=2):
            if places(one) + places(other) <= 5:
                pairs[(product(one, other), shape_of(one), shape_of(other))] += 1
        for box in SMALL:
            for inner, weight in choices(SMALL_SHAPES, repeat=2):
                self.assertEqual(len(lattice_boxes(shape_of(box), inner, weight)), pairs[(box, inner, weight)])

    def test_as_many_as_pairs_up_to_8_places(self):
        # Over all outer shapes: the pairs of full boxes, their numbers shared out in all ways, each have one product.
        for many in range(9):
            for part in range(many + 1):
                for inner, weight in choices(shapes_of(part), shapes_of(many - part)):
                    found = sum(len(lattice_boxes(outer, inner, weight)) * how_many(outer) for outer in shapes_of(many))
                    self.assertEqual(found, comb(many, part) * how_many(inner) * how_many(weight))

    def test_what_they_are(self):
        for many in range(9):
            for outer in shapes_of(many):
                for inner in inner_shapes(outer):
                    for weight in shapes_of(many - sum(inner)):
                        self.check(outer, inner, weight)

    def check(self, outer, inner, weight):
        found = lattice_boxes(outer, inner, weight)
        self.assertIs(type(found), list)
        self.assertTrue(all(one[1] < other[1] for one, other in zip(found, found[1:])))
        for holed in found:
            self.assertIs(is_holed(holed), True)
            self.assertEqual(holed[0], inner)
            self.assertEqual([len(row) for row in holed[1]], row_lengths(outer, inner))
            self.assertTrue(comes_as_told(holed[1], weight))

    def test_more_than_one_in_order(self):
        several = [(outer, inner, weight) for outer in small_shapes(8) for inner in inner_shapes(outer)
                   for weight in shapes_of(sum(outer) - sum(inner)) if len(lattice_boxes(outer, inner, weight)) > 1]
        self.assertGreater(len(several), 5)
        for outer, inner, weight in several:
            found = lattice_boxes(outer, inner, weight)
            self.assertEqual(found, sorted(found, key=lambda holed: holed[1]))

    def test_the_inner_does_not_lie_in_the_outer(self):
        for outer, inner, weight in [((2, 2), (3,), (1,)), ((3,), (1, 1), (1,)), ((3, 1), (2, 2), ()), ((), (1,), ()),
                                     ((2, 1), (3,), ()), ((2, 2), (1, 1, 1), (1,)), ((1,), (16,), (1,)),
                                     ((8,), (1,) * 8, ()), ((4, 4), (5, 3), ())]:
            with self.subTest(outer=outer, inner=inner, weight=weight):
                self.assertEqual(lattice_boxes(outer, inner, weight), [])

    def test_the_places_do_not_come_out(self):
        for outer, inner, weight in [((2,), (1,), ()), ((2,), (1,), (2,)), ((), (), (1,)), ((1,), (), ()),
                                     ((3, 2), (1,), (3,)), ((3, 2), (1,), (3, 2)), ((8,), (), (16,)), ((8,), (), (7,)),
                                     ((2, 1), (2, 1), (1,)), ((1,) * 8, (1,), (1,) * 8)]:
            with self.subTest(outer=outer, inner=inner, weight=weight):
                self.assertEqual(lattice_boxes(outer, inner, weight), [])

    def test_too_many(self):
        for many in range(9, 17):
            for outer in shapes_of(many):
                for inner, weight in [((), outer), (outer, ()), ((1,), (many - 1,)), ((), ()), ((16,), (16,))]:
                    self.assertIs(refusal(lattice_boxes, outer, inner, weight), TooMany)
        # Only the outer shape is bounded so.
        self.assertEqual(lattice_boxes((8,), (9,), (9,)), [])

    def test_no_shape(self):
        for thing in WRONG_SHAPES + strange_things():
            with self.subTest(thing=thing):
                for outer in [(), (2, 1), (9,), (16,)]:
                    self.assertIs(refusal(lattice_boxes, outer, thing, (1,)), NoShape)
                    self.assertIs(refusal(lattice_boxes, outer, (1,), thing), NoShape)
                    self.assertIs(refusal(lattice_boxes, outer, thing, thing), NoShape)
                self.assertIs(refusal(lattice_boxes, thing, (1,), (1,)), NoShape)
                self.assertIs(refusal(lattice_boxes, thing, (), ()), NoShape)
                self.assertIs(refusal(lattice_boxes, thing, thing, thing), NoShape)
