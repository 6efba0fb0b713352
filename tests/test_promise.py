"""Point 1: nothing is changed, and equal things give equal answers."""

import unittest
from copy import deepcopy

from slidebox.errors import BoxError, NoBox, NoPlace, NoWord
from slidebox.exchanges import alike, exchanged, road
from slidebox.pairs import boxes, reading, word_of
from slidebox.putting import put_in, taken_out
from slidebox.rises import cover, longest_fall, longest_rise, rises
from slidebox.sliding import holes, is_holed, slid, together
from slidebox.things import is_box, is_full, is_shape, is_word, shape_of, turned_shape
from slidebox.turning import evacuated, turned
from tests.helpers import refusal

WORD = (4, 2, 7, 3, 6, 1, 5)
BOX = ((1, 3, 5), (2, 6), (4, 7))
TIMES = ((1, 3, 5), (2, 4), (6, 7))
HOLED = ((2, 1), ((1, 1), (1, 2), (1, 3)))
ANSWERED = [
    (is_word, (WORD,)), (is_shape, ((3, 2, 2),)), (is_box, (BOX,)), (is_full, (TIMES,)), (shape_of, (BOX,)),
    (shape_of, ([[1, 2], [3]],)), (turned_shape, ((3, 2, 2),)), (put_in, (BOX, 4)), (taken_out, (BOX, 2)),
    (boxes, (WORD,)), (word_of, (BOX, TIMES)), (reading, (BOX,)),
    (exchanged, (WORD,)), (alike, (WORD, (4, 7, 2, 6, 1, 3, 5))), (road, (WORD, (4, 7, 2, 6, 1, 3, 5))),
    (longest_rise, (WORD,)), (longest_fall, (WORD,)), (cover, (WORD,)), (rises, (WORD, 2)), (rises, (WORD, 5)),
    (is_holed, (HOLED,)), (holes, (HOLED,)), (slid, (HOLED, 0)), (slid, (HOLED, 1)), (together, (HOLED,)),
    (turned, (TIMES,)), (evacuated, (TIMES,)),
]
WRONG = [
    [4, 2, 7], [[1, 3], [2]], ([1, 3], [2]), ((1, 3), [2]), {0: [1, 3], 1: [2]}, ([[1]],), ({1: [1]}, [2]), [3, 2], [],
    [(1,), ((2,),)], ([1], ((2,),)), ((1,), [[2]]), ((1,), ([2], [3])), ((1,), {0: [2]}),
]
ONE_THING = [is_word, is_shape, is_box, is_full, turned_shape, boxes, reading, exchanged, longest_rise, longest_fall,
             cover, is_holed, holes, together, turned, evacuated]
TWO_THINGS = [put_in, taken_out, word_of, alike, road, slid]


def answer_or_refusal(function, given):
    try:
        return function(*given)
    except BoxError as error:
        return type(error)


class NothingIsChanged(unittest.TestCase):
    def check(self, function, given):
        before = deepcopy(given)
        answer_or_refusal(function, given)
        self.assertEqual(given, before)

    def test_where_there_is_an_answer(self):
        for function, given in ANSWERED:
            with self.subTest(function=function):
                self.check(function, given)

    def test_where_it_is_refused(self):
        for thing in WRONG:
            for function in ONE_THING:
                self.check(function, (thing,))
            for function in TWO_THINGS:
                self.check(function, (thing, 0))
                self.check(function, (thing, thing))
                self.check(function, (BOX, thing))
                self.check(function, (WORD, thing))
                self.check(function, (HOLED, thing))
            self.check(rises, (thing, 2))


class EqualAnswers(unittest.TestCase):
    def test_equal_things(self):
        for function, given in ANSWERED:
            with self.subTest(function=function):
                first = function(*given)
                # Another thing is handed in between: nothing of it may stay.
                answer_or_refusal(function, ((),) + given[1:])
                self.assertEqual(function(*given), first)
                self.assertEqual(function(*deepcopy(given)), first)
                self.assertEqual(function(*[remade(thing) for thing in given]), first)

    def test_a_changed_answer_changes_no_later_one(self):
        for function, given in ANSWERED:
            first = function(*given)
            if isinstance(first, list):
                with self.subTest(function=function):
                    before = deepcopy(first)
                    for part in [part for part in first if isinstance(part, list)] + [first]:
                        part.clear()
                    self.assertEqual(function(*given), before)

    def test_true_is_refused_behind_an_equal_one(self):
        # True == 1 to Python, so an answer that is kept for the one must not be given for the other.
        self.assertIs(is_word((1,)), True)
        self.assertIs(is_word((True,)), False)
        self.assertIs(is_shape((1,)), True)
        self.assertIs(is_shape((True,)), False)
        self.assertIs(is_box(((1,),)), True)
        self.assertIs(is_box(((True,),)), False)
        self.assertIs(is_holed(((1,), ((1,),))), True)
        self.assertIs(is_holed(((True,), ((1,),))), False)
        self.assertIs(is_holed(((1,), ((True,),))), False)
        for function in [exchanged, longest_rise, longest_fall, cover]:
            self.assertIsNone(refusal(function, (1, 2)))
            self.assertIs(refusal(function, (True, 2)), NoWord)
        self.assertIs(refusal(rises, (True, 2), 1), NoWord)
        for function in [alike, road]:
            self.assertIsNone(refusal(function, (1, 2), (1, 2)))
            self.assertIs(refusal(function, (1, 2), (True, 2)), NoWord)
            self.assertIs(refusal(function, (True, 2), (1, 2)), NoWord)
        for function in [turned, evacuated]:
            self.assertIsNone(refusal(function, ((1, 2),)))
            self.assertIs(refusal(function, ((True, 2),)), NoBox)
        for function in [holes, together]:
            self.assertIs(refusal(function, ((True,), ((1,),))), NoBox)
        self.assertIsNone(refusal(slid, HOLED, 1))
        self.assertIs(refusal(slid, HOLED, True), NoPlace)
        self.assertIsNone(refusal(slid, HOLED, 0))
        self.assertIs(refusal(slid, HOLED, False), NoPlace)


def remade(thing):
    if isinstance(thing, (tuple, list)):
        return thing.__class__([remade(part) for part in thing])
    return thing
