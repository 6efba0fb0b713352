"""Point 1: nothing is changed, and equal things give equal answers."""

import unittest
from copy import deepcopy

from slidebox.errors import BoxError
from slidebox.pairs import boxes, reading, word_of
from slidebox.putting import put_in, taken_out
from slidebox.things import is_box, is_full, is_shape, is_word, shape_of, turned_shape

WORD = (4, 2, 7, 3, 6, 1, 5)
BOX = ((1, 3, 5), (2, 6), (4, 7))
TIMES = ((1, 3, 5), (2, 4), (6, 7))
ANSWERED = [
    (is_word, (WORD,)), (is_shape, ((3, 2, 2),)), (is_box, (BOX,)), (is_full, (TIMES,)), (shape_of, (BOX,)),
    (shape_of, ([[1, 2], [3]],)), (turned_shape, ((3, 2, 2),)), (put_in, (BOX, 4)), (taken_out, (BOX, 2)),
    (boxes, (WORD,)), (word_of, (BOX, TIMES)), (reading, (BOX,)),
]
WRONG = [
    [4, 2, 7], [[1, 3], [2]], ([1, 3], [2]), ((1, 3), [2]), {0: [1, 3], 1: [2]}, ([[1]],), ({1: [1]}, [2]), [3, 2], [],
]
ONE_THING = [is_word, is_shape, is_box, is_full, turned_shape, boxes, reading]
TWO_THINGS = [put_in, taken_out, word_of]


def answer_or_refusal(function, given):
    try:
        return function(*given)
    except BoxError as error:
        return type(error)


class NothingIsChanged(unittest.TestCase):
    def check(self, function, given):
        before = deepcopy(given)
        answer_or_refusal(function, given)
        self.assertEqual(given, before)

    def test_where_there_is_an_answer(self):
        for function, given in ANSWERED:
            with self.subTest(function=function):
                self.check(function, given)

    def test_where_it_is_refused(self):
        for thing in WRONG:
            for function in ONE_THING:
                self.check(function, (thing,))
            for function in TWO_THINGS:
                self.check(function, (thing, 0))
                self.check(function, (thing, thing))
                self.check(function, (BOX, thing))


class EqualAnswers(unittest.TestCase):
    def test_equal_things(self):
        for function, given in ANSWERED:
            with self.subTest(function=function):
                first = function(*given)
                # Another thing is handed in between: nothing of it may stay.
                answer_or_refusal(function, tuple(() for thing in given))
                self.assertEqual(function(*given), first)
                self.assertEqual(function(*deepcopy(given)), first)
                self.assertEqual(function(*[remade(thing) for thing in given]), first)

    def test_true_is_refused_behind_an_equal_one(self):
        # True == 1 to Python, so an answer that is kept for the one must not be given for the other.
        self.assertIs(is_word((1,)), True)
        self.assertIs(is_word((True,)), False)
        self.assertIs(is_shape((1,)), True)
        self.assertIs(is_shape((True,)), False)
        self.assertIs(is_box(((1,),)), True)
        self.assertIs(is_box(((True,),)), False)


def remade(thing):
    if isinstance(thing, (tuple, list)):
        return thing.__class__([remade(part) for part in thing])
    return thing
