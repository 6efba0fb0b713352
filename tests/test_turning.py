"""Point 11: full boxes turned and evacuated."""

import unittest
from itertools import permutations

from slidebox.errors import NoBox
from slidebox.pairs import boxes
from slidebox.things import is_full, shape_of, turned_shape
from slidebox.turning import evacuated, turned
from tests.helpers import (COLUMN_OF_16, EDGE_WORDS, LONG_WORDS, ROW_OF_16, SQUARE_OF_16, UNLIKE_WORDS,
                           full_boxes_of, letters_by_place, refusal, small_shapes, strange_things)

COUNTING = tuple(range(1, 17))
SMALL = [box for shape in small_shapes(7) for box in full_boxes_of(shape)]
# The second box of a word is full; these have 0 to 16 places.
LONG = [boxes(word)[1] for word in EDGE_WORDS + LONG_WORDS] + [
    ((1, 2, 3, 4), (5, 6, 7, 8), (9, 10, 11, 12), (13, 14, 15, 16)),
    ((1, 5, 9, 13), (2, 6, 10, 14), (3, 7, 11, 15), (4, 8, 12, 16)),
    ((1, 2, 5, 10), (3, 4, 7, 12), (6, 9, 11, 14), (8, 13, 15, 16)),
    ((1, 2, 4, 8, 16), (3, 6, 9, 15), (5, 10, 12), (7, 13), (11,), (14,)),
]
WRONG = [
    5, None, "1", [], {}, (1, 2), [(1,)], ([1],), ((2, 1),), ((2,), (1,)), ((1,), (2, 3)), ((),), ((1,), ()),
    ((1, 2), [3]), ((True,),), ((True, 2), (3,)), ((1, 2), (3, False)), (COUNTING + (17,),), ((1, None),), ((1, (2,)),),
]
NOT_FULL = [((2,),), ((1, 1),), ((1, 3),), ((2, 3),), ((1, 2), (4,)), ((1, 2), (2,)), (ROW_OF_16,), SQUARE_OF_16,
            ((30,),), (COUNTING[1:],)]


def literal_evacuation(box):
    """The letters of the first place taken out one by one, place by place, as point 11 tells it."""
    letters = letters_by_place(box)
    places = len(letters)
    answer = {}
    for step in range(1, places + 1):
        empty = (0, 0)
        while True:
            r, c = empty
            neighbours = [place for place in [(r, c + 1), (r + 1, c)] if place in letters]
            if not neighbours:
                break
            less = min(neighbours, key=letters.get)
            letters[empty] = letters[less]
            empty = less
        del letters[empty]
        answer[empty] = places + 1 - step
    return tuple(tuple(answer[(r, c)] for c in range(len(row))) for r, row in enumerate(box))


def turned_round(word):
    return tuple(len(word) + 1 - letter for letter in word)


class Turned(unittest.TestCase):
    def test_known_ones(self):
        for box, other in [((), ()), (((1,),), ((1,),)), (((1, 2),), ((1,), (2,))), (((1, 2), (3,)), ((1, 3), (2,))),
                           (((1, 2, 4), (3, 5)), ((1, 3), (2, 5), (4,))), ((COUNTING,), COLUMN_OF_16),
                           (((1, 2), (3, 4)), ((1, 3), (2, 4)))]:
            with self.subTest(box=box):
                self.assertEqual(turned(box), other)
                self.assertEqual(turned(other), box)

    def test_place_by_place(self):
        for box in SMALL + LONG:
            places = letters_by_place(box)
            self.assertEqual(letters_by_place(turned(box)), {(c, r): letter for (r, c), letter in places.items()})

    def test_twice_is_the_box_itself(self):
        for box in SMALL + LONG:
            self.assertIs(is_full(turned(box)), True)
            self.assertEqual(shape_of(turned(box)), turned_shape(shape_of(box)))
            self.assertEqual(turned(turned(box)), box)

    def test_the_reversed_word_has_it(self):
        for word in list(permutations(range(1, 7))) + UNLIKE_WORDS:
            self.assertEqual(boxes(word[::-1])[0], turned(boxes(word)[0]))

    def test_no_full_box(self):
        for thing in WRONG + NOT_FULL + strange_things():
            with self.subTest(thing=thing):
                self.assertIs(refusal(turned, thing), NoBox)


class Evacuated(unittest.TestCase):
    def test_known_ones(self):
        for box, other in [((), ()), (((1,),), ((1,),)), (((1, 2),), ((1, 2),)), (((1,), (2,)), ((1,), (2,))),
                           (((1, 2), (3,)), ((1, 3), (2,))), (((1, 2), (3, 4)), ((1, 2), (3, 4))),
                           (((1, 2, 3), (4,)), ((1, 3, 4), (2,))), (((1, 2, 4), (3,)), ((1, 2, 4), (3,))),
                           (((1, 2, 3), (4, 5)), ((1, 2, 5), (3, 4))), ((COUNTING,), (COUNTING,)),
                           (COLUMN_OF_16, COLUMN_OF_16)]:
            with self.subTest(box=box):
                self.assertEqual(evacuated(box), other)
                self.assertEqual(evacuated(other), box)

    def test_step_by_step(self):
        for box in SMALL + LONG:
            self.assertEqual(evacuated(box), literal_evacuation(box))

    def test_twice_is_the_box_itself(self):
        for box in SMALL + LONG:
            self.assertIs(is_full(evacuated(box)), True)
            self.assertEqual(shape_of(evacuated(box)), shape_of(box))
            self.assertEqual(evacuated(evacuated(box)), box)

    def test_the_word_turned_round_and_reversed_has_it(self):
        for word in list(permutations(range(1, 7))) + UNLIKE_WORDS:
            self.assertEqual(boxes(turned_round(word)[::-1])[0], evacuated(boxes(word)[0]))

    def test_no_full_box(self):
        for thing in WRONG + NOT_FULL + strange_things():
            with self.subTest(thing=thing):
                self.assertIs(refusal(evacuated, thing), NoBox)


class Examples(unittest.TestCase):
    def test_they_have_0_to_16_places(self):
        self.assertEqual(sorted(set(sum(shape_of(box)) for box in LONG)), list(range(17)))
        self.assertEqual(sorted(set(len(word) for word in UNLIKE_WORDS)), list(range(17)))
        for word in UNLIKE_WORDS:
            self.assertEqual(sorted(word), list(range(1, len(word) + 1)))
