"""The refusals of the interface."""

import unittest

from slidebox import errors
from slidebox.counting import full_boxes, hooks, how_many
from slidebox.exchanges import alike, exchanged, road
from slidebox.pairs import boxes, reading, word_of
from slidebox.products import lattice_boxes, product
from slidebox.putting import put_in, taken_out
from slidebox.rises import cover, longest_fall, longest_rise, rises
from slidebox.sliding import holes, slid, together
from slidebox.tables import growth, pair_of, table_of
from slidebox.texts import read, shown
from slidebox.things import turned_shape
from slidebox.turning import evacuated, turned
from tests.helpers import ROW_OF_16

NAMES = ["NoWord", "NoShape", "NoBox", "NoPlace", "NoTable", "NoText", "Unlike", "TooMany", "TooBig"]


class Refusals(unittest.TestCase):
    def test_box_error_is_a_value_error(self):
        self.assertTrue(issubclass(errors.BoxError, ValueError))

    def test_each_one_is_taken_by_both(self):
        for name in NAMES:
            for wider in (errors.BoxError, ValueError):
                with self.subTest(name=name, wider=wider), self.assertRaises(wider):
                    raise getattr(errors, name)("words")

    def test_none_is_taken_by_another(self):
        for name in NAMES:
            for other in NAMES:
                with self.subTest(name=name, other=other):
                    one = getattr(errors, name)
                    self.assertEqual(issubclass(one, getattr(errors, other)), name == other)

    def test_what_is_raised_is_taken_by_both(self):
        calls = [
            lambda: turned_shape(None), lambda: boxes(None), lambda: reading(None), lambda: word_of(None, None),
            lambda: word_of(((1,),), ()), lambda: put_in(None, 1), lambda: put_in((), None),
            lambda: put_in((ROW_OF_16,), 1), lambda: taken_out(None, 0), lambda: taken_out((), 0),
            lambda: exchanged(None), lambda: alike(None, ()), lambda: alike((), None), lambda: road(None, ()),
            lambda: road((), None), lambda: longest_rise(None), lambda: longest_fall(None), lambda: cover(None),
            lambda: rises(None, 1), lambda: holes(None), lambda: slid(None, 0), lambda: slid(((), ()), 0),
            lambda: together(None), lambda: turned(None), lambda: turned(((2,),)), lambda: evacuated(None),
            lambda: evacuated(((2,),)), lambda: hooks(None), lambda: how_many(None), lambda: full_boxes(None),
            lambda: full_boxes((4, 3, 3)), lambda: product(None, ()), lambda: product((), None),
            lambda: product((ROW_OF_16,), ((1,),)), lambda: lattice_boxes(None, (), ()),
            lambda: lattice_boxes((), None, ()), lambda: lattice_boxes((), (), None),
            lambda: lattice_boxes((9,), (), ()), lambda: pair_of(None), lambda: table_of(None, (), 1, 1),
            lambda: table_of((), None, 1, 1),
            lambda: table_of(((1,),), (), 1, 1), lambda: table_of((), (), 6, 1), lambda: table_of((), (), 1, 0),
            lambda: table_of(((2,),), ((1,),), 1, 1), lambda: growth(None), lambda: growth((1, 1)), lambda: shown(None),
            lambda: read(None), lambda: read(""), lambda: read("2 1"),
        ]
        for call in calls:
            for wider in (errors.BoxError, ValueError):
                with self.assertRaises(wider):
                    call()
