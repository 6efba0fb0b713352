"""Point 1, over the whole program: what is handed in, what is answered, and which refusal comes."""

import unittest
from copy import deepcopy

from slidebox.counting import full_boxes, hooks, how_many
from slidebox.errors import BoxError, NoBox, NoPlace, NoShape, NoTable, NoText, NoWord, TooBig, TooMany, Unlike
from slidebox.exchanges import alike, exchanged, road
from slidebox.pairs import boxes, reading, word_of
from slidebox.products import lattice_boxes, product
from slidebox.putting import put_in, taken_out
from slidebox.rises import cover, longest_fall, longest_rise, rises
from slidebox.sliding import holes, is_holed, slid, together
from slidebox.tables import growth, pair_of, table_of
from slidebox.texts import read, shown
from slidebox.things import is_box, is_full, is_shape, is_word, shape_of, turned_shape
from slidebox.turning import evacuated, turned
from tests.helpers import COLUMN_OF_16, ROW_OF_16, refusal, strange_things

WORD = (4, 2, 7, 3, 6, 1, 5)
BOX = ((1, 3, 5), (2, 6), (4, 7))
TIMES = ((1, 3, 5), (2, 4), (6, 7))
HOLED = ((2, 1), ((1, 1), (1, 2), (1, 3)))
TABLE = ((1, 0, 2), (0, 2, 0), (1, 1, 0))
ANSWERED = [
    (is_word, (WORD,)), (is_shape, ((3, 2, 2),)), (is_box, (BOX,)), (is_full, (TIMES,)), (shape_of, (BOX,)),
    (shape_of, ([[1, 2], [3]],)), (turned_shape, ((3, 2, 2),)), (put_in, (BOX, 4)), (taken_out, (BOX, 2)),
    (boxes, (WORD,)), (word_of, (BOX, TIMES)), (reading, (BOX,)),
    (exchanged, (WORD,)), (alike, (WORD, (4, 7, 2, 6, 1, 3, 5))), (road, (WORD, (4, 7, 2, 6, 1, 3, 5))),
    (longest_rise, (WORD,)), (longest_fall, (WORD,)), (cover, (WORD,)), (rises, (WORD, 2)), (rises, (WORD, 5)),
    (is_holed, (HOLED,)), (holes, (HOLED,)), (slid, (HOLED, 0)), (slid, (HOLED, 1)), (together, (HOLED,)),
    (turned, (TIMES,)), (evacuated, (TIMES,)),
    (hooks, ((3, 2, 2),)), (how_many, ((3, 2, 2),)), (full_boxes, ((3, 2, 2),)), (product, (BOX, TIMES)),
    (lattice_boxes, ((3, 2, 1), (2, 1), (2, 1))), (lattice_boxes, ((2,), (3,), ())), (pair_of, (TABLE,)),
    (table_of, (((1, 2), (2,)), ((1, 1), (3,)), 3, 4)), (growth, (WORD,)), (shown, (BOX,)), (read, ("1 3 / 2",)),
]
WRONG = [
    [4, 2, 7], [[1, 3], [2]], ([1, 3], [2]), ((1, 3), [2]), {0: [1, 3], 1: [2]}, ([[1]],), ({1: [1]}, [2]), [3, 2], [],
    [(1,), ((2,),)], ([1], ((2,),)), ((1,), [[2]]), ((1,), ([2], [3])), ((1,), {0: [2]}),
]
ONE_THING = [is_word, is_shape, is_box, is_full, turned_shape, boxes, reading, exchanged, longest_rise, longest_fall,
             cover, is_holed, holes, together, turned, evacuated, hooks, how_many, full_boxes, pair_of, growth,
             shown, read]
TWO_THINGS = [put_in, taken_out, word_of, alike, road, slid, product]


def answer_or_refusal(function, given):
    try:
        return function(*given)
    except BoxError as error:
        return type(error)


class NothingIsChanged(unittest.TestCase):
    def check(self, function, given):
        before = deepcopy(given)
        answer_or_refusal(function, given)
        self.assertEqual(given, before)

    def test_where_there_is_an_answer(self):
        for function, given in ANSWERED:
            with self.subTest(function=function):
                self.check(function, given)

    def test_where_it_is_refused(self):
        for thing in WRONG:
            for function in ONE_THING:
                self.check(function, (thing,))
            for function in TWO_THINGS:
                self.check(function, (thing, 0))
                self.check(function, (thing, thing))
                self.check(function, (BOX, thing))
                self.check(function, (WORD, thing))
                self.check(function, (HOLED, thing))
            self.check(rises, (thing, 2))
            for given in [(thing, (1,), (1,)), ((2,), thing, (1,)), ((2,), (1,), thing), (thing, thing, thing)]:
                self.check(lattice_boxes, given)
            for given in [(thing, BOX, 5, 5), (BOX, thing, 5, 5), ((), (), thing, 5), ((), (), 5, thing), (thing,) * 4]:
                self.check(table_of, given)


class EqualAnswers(unittest.TestCase):
    def test_equal_things(self):
        for function, given in ANSWERED:
            with self.subTest(function=function):
                first = function(*given)
                # Another thing is handed in between: nothing of it may stay.
                answer_or_refusal(function, ((),) + given[1:])
                self.assertEqual(function(*given), first)
                self.assertEqual(function(*deepcopy(given)), first)
                self.assertEqual(function(*[remade(thing) for thing in given]), first)

    def test_a_changed_answer_changes_no_later_one(self):
        for function, given in ANSWERED:
            first = function(*given)
            if isinstance(first, list):
                with self.subTest(function=function):
                    before = deepcopy(first)
                    for part in [part for part in first if isinstance(part, list)] + [first]:
                        part.clear()
                    self.assertEqual(function(*given), before)

    def test_true_is_refused_behind_an_equal_one(self):
        # True == 1 to Python, so an answer that is kept for the one must not be given for the other.
        self.assertIs(is_word((1,)), True)
        self.assertIs(is_word((True,)), False)
        self.assertIs(is_shape((1,)), True)
        self.assertIs(is_shape((True,)), False)
        self.assertIs(is_box(((1,),)), True)
        self.assertIs(is_box(((True,),)), False)
        self.assertIs(is_holed(((1,), ((1,),))), True)
        self.assertIs(is_holed(((True,), ((1,),))), False)
        self.assertIs(is_holed(((1,), ((True,),))), False)
        for function in [exchanged, longest_rise, longest_fall, cover]:
            self.assertIsNone(refusal(function, (1, 2)))
            self.assertIs(refusal(function, (True, 2)), NoWord)
        self.assertIs(refusal(rises, (True, 2), 1), NoWord)
        for function in [alike, road]:
            self.assertIsNone(refusal(function, (1, 2), (1, 2)))
            self.assertIs(refusal(function, (1, 2), (True, 2)), NoWord)
            self.assertIs(refusal(function, (True, 2), (1, 2)), NoWord)
        for function in [turned, evacuated]:
            self.assertIsNone(refusal(function, ((1, 2),)))
            self.assertIs(refusal(function, ((True, 2),)), NoBox)
        for function in [holes, together]:
            self.assertIs(refusal(function, ((True,), ((1,),))), NoBox)
        self.assertIsNone(refusal(slid, HOLED, 1))
        self.assertIs(refusal(slid, HOLED, True), NoPlace)
        self.assertIsNone(refusal(slid, HOLED, 0))
        self.assertIs(refusal(slid, HOLED, False), NoPlace)

    def test_true_is_refused_behind_an_equal_one_in_shapes_and_tables(self):
        for function in [turned_shape, hooks, how_many, full_boxes]:
            self.assertIsNone(refusal(function, (2, 1)))
            self.assertIs(refusal(function, (2, True)), NoShape)
        self.assertIsNone(refusal(lattice_boxes, (1,), (1,), (1,)))
        for given in [((True,), (1,), (1,)), ((1,), (True,), (1,)), ((1,), (1,), (True,))]:
            self.assertIs(refusal(lattice_boxes, *given), NoShape)
        self.assertIsNone(refusal(product, ((1,),), ((1,),)))
        self.assertIs(refusal(product, ((True,),), ((1,),)), NoBox)
        self.assertIs(refusal(product, ((1,),), ((True,),)), NoBox)
        self.assertIsNone(refusal(pair_of, ((1, 0),)))
        self.assertIs(refusal(pair_of, ((True, 0),)), NoTable)
        self.assertIs(refusal(pair_of, ((1, False),)), NoTable)
        self.assertIsNone(refusal(table_of, ((1,),), ((1,),), 1, 1))
        for rows, columns in [(True, 1), (1, True), (True, True), (False, 1), (1, False)]:
            self.assertIs(refusal(table_of, ((1,),), ((1,),), rows, columns), NoTable)
        self.assertIs(refusal(table_of, ((True,),), ((1,),), 1, 1), NoBox)
        self.assertIs(refusal(table_of, ((1,),), ((True,),), 1, 1), NoBox)
        self.assertIsNone(refusal(growth, (1, 2)))
        self.assertIs(refusal(growth, (True, 2)), NoWord)
        self.assertIsNone(refusal(shown, ((1,),)))
        self.assertIs(refusal(shown, ((True,),)), NoBox)
        self.assertIs(refusal(read, True), NoText)


class TheRefusalNamedFirst(unittest.TestCase):
    def test_where_several_fit(self):
        # Each call fits the refusal told and the ones behind it in the interface.
        for first, function, given in [
            (NoBox, put_in, (None, None)), (NoBox, put_in, ((ROW_OF_16 + (1,),), 0)),
            (NoWord, put_in, (COLUMN_OF_16, 0)), (TooBig, put_in, (COLUMN_OF_16, 1)), (NoBox, taken_out, (None, None)), (NoPlace, taken_out, (BOX, None)),
            (NoBox, word_of, (BOX, ((1, 1),))), (NoBox, word_of, (None, TIMES)), (Unlike, word_of, (BOX, ())),
            (NoBox, slid, (None, None)), (NoPlace, slid, (HOLED, None)), (NoWord, road, (None, (1,))),
            (NoShape, full_boxes, ((5, 5, 5, 5),)), (TooMany, full_boxes, ((4, 4, 4, 4),)),
            (NoBox, product, (COLUMN_OF_16, None)), (NoBox, product, (None, COLUMN_OF_16)),
            (TooBig, product, (COLUMN_OF_16, BOX)), (NoShape, lattice_boxes, ((9,), None, ())),
            (NoShape, lattice_boxes, ((9,), (), (1, 2))), (NoShape, lattice_boxes, ((17,), (), ())),
            (TooMany, lattice_boxes, ((9,), (1, 1), (3,))), (NoBox, table_of, (BOX, None, 9, 9)),
            (NoBox, table_of, (None, BOX, None, None)), (Unlike, table_of, (BOX, (), 0, 0)),
            (Unlike, table_of, ((), BOX, None, None)), (NoTable, table_of, (BOX, BOX, 0, 0)),
            (NoTable, table_of, (BOX, BOX, 5, 5)),
        ]:
            with self.subTest(function=function, given=given):
                self.assertIs(refusal(function, *given), first)

    def test_things_of_any_kind(self):
        refused = {
            NoShape: [turned_shape, hooks, how_many, full_boxes],
            NoWord: [boxes, exchanged, longest_rise, longest_fall, cover, growth],
            NoBox: [reading, holes, together, turned, evacuated, shown],
            NoTable: [pair_of], NoText: [read],
        }
        taken = [(pair_of, ((0,),)), (read, "1")]
        for error, functions in refused.items():
            for function in functions:
                for thing in strange_things():
                    if (function, thing) not in taken:
                        with self.subTest(function=function, thing=thing):
                            self.assertIs(refusal(function, thing), error)


def remade(thing):
    if isinstance(thing, (tuple, list)):
        return thing.__class__([remade(part) for part in thing])
    return thing
