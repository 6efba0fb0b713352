"""Point 10: boxes with a hole, and how they are slid together."""

import unittest
from itertools import product

from slidebox.errors import NoBox, NoPlace
from slidebox.pairs import boxes
from slidebox.sliding import holes, is_holed, slid, together
from slidebox.things import is_box
from tests.helpers import (COLUMN_OF_16, EDGE_WORDS, LONG_WORDS, ROW_OF_16, SQUARE_OF_16, corner_rows, cut_out, filled,
                           inner_shapes, letters_by_place, refusal, small_boxes, small_holed, small_shapes,
                           stands_well, strange_things)

SMALL = small_holed(3, 5)
# Holes of several shapes in boxes of up to 16 places.
LONG_BOXES = [boxes(word)[0] for word in EDGE_WORDS + LONG_WORDS] + [SQUARE_OF_16, COLUMN_OF_16, (ROW_OF_16,)]
LONG = [cut_out(box, tuple(length for length in hole if length))
        for box in LONG_BOXES
        for hole in [[max(len(row) - less - r, 0) for r, row in enumerate(box)] for less in (0, 1, 2)]
        if hole == sorted(hole, reverse=True)]
WRONG = [
    5, None, "", "12", [], {}, (), (1, 2), ((), ((1,),), ()), ((),), (((1,),),),
    # the hole is no shape
    ([], ()), ([1], ((2,),)), (1, ((2,),)), (None, ((2,),)), ("", ((2,),)), ({}, ((2,),)), ((0,), ((2,),)),
    ((1, 0), ((2,), ())), ((1, 2), ((3, 3), (4,))), ((-1,), ((2, 2),)), ((1.0,), ((2,),)), (("1",), ((2,),)),
    (((1,),), ((2,),)), (([1],), ((2,),)), ((None,), ((2,),)), ((17,), ((),)), ((9, 8), ((), ())),
    # the rows are no tuples of letters
    ((1,), [(2,)]), ((1,), ([2],)), ((1,), 2), ((1,), None), ((1,), "2"), ((1,), ("2",)), ((1,), {0: (2,)}),
    ((1,), (2,)), ((1,), ((0,),)), ((1,), ((31,),)), ((1,), ((2, None),)), ((1,), (([2],),)),
    ((1,), (((2,),),)), ((1,), ({},)),
    ((1,), ((2,), None)), ((1,), ((2,), [])), ((1,), ([], (2,))), ((), [()]), ((), ([],)), ((), []), ((), [(1,)]),
    # True and False are no numbers
    ((True,), ((2,),)), ((1,), ((True,),)), ((2, True), ((2,), (3,))), ((1,), ((2, False),)), ((False,), ((2,),)),
    (True, ()), ((), True), ((), (True,)), ((), ((True,),)), ((True,), ((),)),
    # a row too many or too few
    ((), ((),)), ((), ((1,), ())), ((1,), ()), ((1,), ((2,), ())), ((1, 1), ((2,),)), ((2, 1), ((),)), ((1,), ((), ())),
    # together no shape
    ((1,), ((), (2, 3))), ((), ((), (1,))), ((2, 1), ((), (3, 4))), ((), ((1,), (2, 3))), ((1, 1), ((2,), (2, 3))),
    # 17 places together
    ((1,), ((1,) * 16,)), ((), ((1,) * 17,)), ((16,), ((), (1,))), ((16,), ((1,),)), ((8, 4), ((1, 1), (2, 2, 2))),
    # a row that falls
    ((1,), ((3, 2),)), ((), ((2, 1),)), ((1,), ((2,), (2, 1))), ((2, 1), ((1, 1), (2, 5, 4))),
    # a column that does not rise, where two letters stand side by side
    ((), ((1,), (1,))), ((), ((2,), (1,))), ((1,), ((2,), (1, 2))), ((1,), ((3,), (1, 2))), ((1, 1), ((2,), (2,))),
    ((1,), ((2,), (2, 3), (2,))), ((2,), ((1,), (1, 2, 2), (2, 2))), ((2, 1), ((1, 2), (1, 1, 2))),
    ((1, 1), ((2, 2), (3, 3), (1, 3))),
]
RIGHT = [
    ((), ()), ((), ((1,),)), ((), ((1, 1, 2), (2, 3))), ((), SQUARE_OF_16), ((), COLUMN_OF_16), ((), (ROW_OF_16,)),
    # the hole is the whole shape
    ((1,), ((),)), ((3, 2), ((), ())), ((16,), ((),)), ((1,) * 16, ((),) * 16), ((4, 4, 4, 4), ((),) * 4),
    # ordinary ones, some rows without letters
    ((1,), ((2,),)), ((1,), ((), (1,))), ((2, 1), ((1, 1), (1, 2), (1, 3))), ((2, 1), ((), (3,))),
    ((1,), ((30,), (30,))), ((3, 1), ((2,), (1, 1), (2,))), ((2, 2), ((), (), (1, 1))), ((2, 2), ((1,), (), (1,))),
    ((1,), ((1, 1), (1, 2, 2))),
    # 16 places together
    ((1,), ((1,) * 15,)), ((8, 4), ((1,), (2, 2, 2))), ((1,) * 15, ((),) * 15 + ((1,),)), ((15,), ((), (30,))),
    # letters of two rows that do not stand below each other
    ((1,), ((5,), (5,))), ((1,), ((5,), (1,))), ((2,), ((1,), (9, 9))), ((2, 1), ((1,), (1,), (1,))),
    ((2, 1), ((3, 3), (2,), (1,))), ((1,), ((1, 1), (30, 30))),
]


def literal_slide(hole, rows, row):
    """A corner slid out step by step, place by place, as point 10 tells it."""
    letters = letters_by_place(rows, hole)
    empty = (row, hole[row] - 1)
    while True:
        r, c = empty
        neighbours = [(letters[place], order, place) for order, place in enumerate([(r + 1, c), (r, c + 1)])
                      if place in letters]
        if not neighbours:
            break
        less = min(neighbours)[2]
        letters[empty] = letters.pop(less)
        empty = less
    lengths = [length - (r == row) for r, length in enumerate(hole)] + [0] * len(rows)
    left = [tuple(letters[place] for place in sorted(letters) if place[0] == r) for r in range(len(rows))]
    outer = [lengths[r] + len(left[r]) for r in range(len(rows))]
    return (tuple(length for length in lengths if length),
            tuple(part for part, length in zip(left, outer) if length))


def word_of_rows(rows):
    return sum(rows[::-1], ())


class WhatIsHoled(unittest.TestCase):
    def test_right_ones(self):
        for holed in RIGHT:
            with self.subTest(holed=holed):
                self.assertIs(is_holed(holed), True)

    def test_wrong_ones(self):
        for thing in WRONG + strange_things():
            with self.subTest(thing=thing):
                self.assertIs(is_holed(thing), False)

    def test_all_small_ones(self):
        # Every hole, and rows of all lengths, whether they make up a shape or not.
        shapes = small_shapes(4)
        for hole in small_shapes(3):
            begins = hole + (0,) * 4
            for many in range(4):
                for lengths in product(range(3), repeat=many):
                    outer = tuple(begin + length for begin, length in zip(begins, lengths))
                    fits = many >= len(hole) and outer in shapes
                    if sum(outer) > 4:
                        continue
                    for letters in product(range(1, 4), repeat=sum(lengths)):
                        rows = filled(lengths, letters)
                        self.assertIs(is_holed((hole, rows)), fits and stands_well(rows, hole))

    def test_boxes_and_parts_of_them(self):
        for box in small_boxes(3, 4):
            self.assertIs(is_holed(((), box)), True)
            self.assertIs(is_holed(box), False)
            for hole in inner_shapes(tuple(len(row) for row in box)):
                self.assertIs(is_holed(cut_out(box, hole)), True)

    def test_long_ones(self):
        self.assertTrue(any(sum(hole) + sum(map(len, rows)) == 16 for hole, rows in LONG))
        for holed in LONG:
            self.assertIs(is_holed(holed), True)


class CornersOfHoles(unittest.TestCase):
    def test_known_ones(self):
        for holed, rows in [(((), ()), []), (((), ((1, 2), (3,))), []), (((1,), ((),)), [0]),
                            (((3, 2), ((), ())), [0, 1]), (((2, 2), ((1,), (), (1,))), [1]),
                            (((2, 1), ((1, 1), (1, 2), (1, 3))), [0, 1]),
                            (((3, 1, 1), ((), (2,), (3,))), [0, 2]), (((4, 3, 2, 1), ((), (), (), ())), [0, 1, 2, 3]),
                            (((1,) * 16, ((),) * 16), [15]), (((4, 4, 4, 4), ((),) * 4), [3])]:
            with self.subTest(holed=holed):
                self.assertEqual(holes(holed), rows)
                self.assertIs(type(holes(holed)), list)

    def test_rows_of_the_corners_rising(self):
        for hole, rows in SMALL + LONG:
            self.assertEqual(holes((hole, rows)), corner_rows(tuple((1,) * length for length in hole)))

    def test_no_box(self):
        for thing in WRONG + strange_things():
            with self.subTest(thing=thing):
                self.assertIs(refusal(holes, thing), NoBox)


class SlidOut(unittest.TestCase):
    def test_known_ones(self):
        for holed, row, left in [
            # to the right, downwards, and both
            (((1,), ((2, 3),)), 0, ((), ((2, 3),))),
            (((1,), ((), (2,), (3,))), 0, ((), ((2,), (3,)))),
            (((1,), ((2,), (1,))), 0, ((), ((1, 2),))),
            (((1,), ((1,), (2,))), 0, ((), ((1,), (2,)))),
            (((1,), ((1, 3), (2, 2, 4))), 0, ((), ((1, 2, 3), (2, 4)))),
            (((1,), ((3, 4), (2, 5), (6,))), 0, ((), ((2, 3, 4), (5,), (6,)))),
            # of two like ones the lower
            (((1,), ((2,), (2,))), 0, ((), ((2, 2),))),
            (((1,), ((2, 2), (2, 3), (3,))), 0, ((), ((2, 2, 2), (3, 3)))),
            (((1,), ((1, 3), (2, 3), (4,))), 0, ((), ((1, 3, 3), (2,), (4,)))),
            # each corner
            (((2, 1), ((1, 1), (1, 2), (1, 3))), 0, ((1, 1), ((1, 1, 1), (2,), (1, 3)))),
            (((2, 1), ((1, 1), (1, 2), (1, 3))), 1, ((2,), ((1, 1), (1, 1, 2), (3,)))),
            # an end at once, where neither neighbour is there
            (((1,), ((),)), 0, ((), ())),
            (((2,), ((),)), 0, ((1,), ((),))),
            (((3, 1), ((), ())), 0, ((2, 1), ((), ()))),
            (((3, 1), ((), ())), 1, ((3,), ((),))),
            (((2,), ((), (5,))), 0, ((1,), ((), (5,)))),
            (((1, 1), ((2,), ())), 1, ((1,), ((2,),))),
            # a row that has no letter left
            (((2, 1), ((), (), (3,))), 1, ((2,), ((), (3,)))),
            (((1,), ((), (4,))), 0, ((), ((4,),))),
            (((2, 2), ((), (), (3, 4))), 1, ((2, 1), ((), (4,), (3,)))),
            (((2, 1), ((), (4,))), 0, ((1, 1), ((4,), ()))),
            (((1, 1), ((5,), (), (5,))), 1, ((1,), ((5,), (5,)))),
        ]:
            with self.subTest(holed=holed, row=row):
                self.assertEqual(slid(holed, row), left)

    def test_small_ones_step_by_step(self):
        for hole, rows in SMALL:
            for row in holes((hole, rows)):
                self.assertEqual(slid((hole, rows), row), literal_slide(hole, rows, row))

    def test_long_ones_step_by_step(self):
        for hole, rows in LONG:
            for row in holes((hole, rows)):
                with self.subTest(hole=hole, rows=rows, row=row):
                    self.assertEqual(slid((hole, rows), row), literal_slide(hole, rows, row))

    def test_what_is_left(self):
        for hole, rows in SMALL + LONG:
            for row in holes((hole, rows)):
                left = slid((hole, rows), row)
                self.assertIs(is_holed(left), True)
                self.assertEqual(sum(left[0]), sum(hole) - 1)
                self.assertEqual(sorted(sum(left[1], ())), sorted(sum(rows, ())))

    def test_no_box(self):
        for thing in WRONG + strange_things():
            for row in [0, -1, 5, None, True, "0", [], thing]:
                with self.subTest(thing=thing, row=row):
                    self.assertIs(refusal(slid, thing, row), NoBox)

    def test_no_corner_there(self):
        for holed in RIGHT + LONG:
            for row in [-100, -2, -1] + list(range(18)) + [10 ** 30, -10 ** 30]:
                with self.subTest(holed=holed, row=row):
                    self.assertIs(refusal(slid, holed, row), None if row in holes(holed) else NoPlace)

    def test_a_corner_of_the_rows_is_none_of_the_hole(self):
        self.assertIs(refusal(slid, ((1,), ((2,), (3,))), 1), NoPlace)
        self.assertIs(refusal(slid, ((2, 2), ((1,), (), (1,))), 0), NoPlace)
        self.assertIs(refusal(slid, ((), ((1,),)), 0), NoPlace)

    def test_no_row_at_all(self):
        things = strange_things() + [True, False, 0.0, 1.0, "0", "", (0,), [0], {0: 0}, (), [], {}]
        for holed in [((), ()), ((1,), ((),)), ((2, 1), ((1, 1), (1, 2), (1, 3))), ((1, 1), ((2,), (3,)))]:
            for thing in things:
                with self.subTest(holed=holed, thing=thing):
                    self.assertIs(refusal(slid, holed, thing), NoPlace)


class Together(unittest.TestCase):
    def every_end(self, holed, known):
        """All boxes that are left, corners being slid out in whatever order."""
        if holed not in known:
            known[holed] = {holed[1]} if holed[0] == () else set()
            for row in holes(holed):
                known[holed] |= self.every_end(slid(holed, row), known)
        return known[holed]

    def test_known_ones(self):
        for holed, box in [
            (((), ()), ()), (((1,), ((),)), ()), (((4, 4, 4, 4), ((),) * 4), ()),
            (((), ((1, 2), (3,))), ((1, 2), (3,))),
            (((1,), ((2,), (1,))), ((1, 2),)), (((1,), ((1,), (2,))), ((1,), (2,))), (((1,), ((2,), (2,))), ((2, 2),)),
            (((2, 1), ((1, 1), (1, 2), (1, 3))), ((1, 1, 1, 1), (2,), (3,))),
            (((2, 1), ((3,), (2,), (1,))), ((1, 2, 3),)), (((2, 1), ((1,), (2,), (3,))), ((1,), (2,), (3,))),
            (((2, 1), ((2,), (3,), (1,))), ((1, 2), (3,))), (((2, 1), ((1,), (3,), (2,))), ((1, 3), (2,))),
        ]:
            with self.subTest(holed=holed):
                self.assertEqual(together(holed), box)

    def test_the_box_of_the_word_of_its_rows(self):
        for hole, rows in SMALL + LONG + RIGHT:
            box = together((hole, rows))
            self.assertIs(is_box(box), True)
            self.assertEqual(box, boxes(word_of_rows(rows))[0])

    def test_in_whatever_order(self):
        known = {}
        larger = [((3, 2, 1), ((1, 2), (1, 3), (2, 2), (1, 3, 3))), ((4, 2), ((2,), (1, 2, 4), (1, 1, 3, 5))),
                  ((3, 2, 1), ((1,), (2, 2), (1, 3, 3), (2, 2, 4)))]
        for holed in SMALL + larger:
            self.assertIs(is_holed(holed), True)
            self.assertEqual(self.every_end(holed, known), {boxes(word_of_rows(holed[1]))[0]})
            self.assertEqual(self.every_end(holed, known), {together(holed)})

    def test_every_small_word_on_a_stair(self):
        # Letters of which no two stand side by side: any word can be written so.
        for word in product(range(1, 5), repeat=4):
            stair = ((3, 2, 1), tuple((letter,) for letter in word[::-1]))
            self.assertEqual(together(stair), boxes(word)[0])

    def test_no_box(self):
        for thing in WRONG + strange_things():
            with self.subTest(thing=thing):
                self.assertIs(refusal(together, thing), NoBox)
