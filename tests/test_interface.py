"""The interface: each name is there, in its file, with its arguments."""

import unittest
from importlib import import_module
from inspect import signature

INTERFACE = {
    "things": ["is_word(thing)", "is_shape(thing)", "is_box(thing)", "is_full(thing)", "shape_of(rows)",
               "turned_shape(shape)"],
    "putting": ["put_in(box, letter)", "taken_out(box, row)"],
    "pairs": ["boxes(word)", "word_of(box, times)", "reading(box)"],
    "exchanges": ["exchanged(word)", "alike(one, other)", "road(one, other)"],
    "rises": ["longest_rise(word)", "longest_fall(word)", "cover(word)", "rises(word, many)"],
    "sliding": ["is_holed(thing)", "holes(holed)", "slid(holed, row)", "together(holed)"],
    "turning": ["turned(box)", "evacuated(box)"],
    "counting": ["hooks(shape)", "how_many(shape)", "full_boxes(shape)"],
    "products": ["product(one, other)", "lattice_boxes(outer, inner, weight)"],
    "tables": ["pair_of(table)", "table_of(one, other, rows, columns)", "growth(word)"],
    "texts": ["shown(box)", "read(text)"],
}


class Interface(unittest.TestCase):
    def test_each_function(self):
        for file, calls in INTERFACE.items():
            module = import_module(f"slidebox.{file}")
            for call in calls:
                with self.subTest(call=call):
                    name = call.partition("(")[0]
                    function = getattr(module, name)
                    self.assertEqual(f"{name}{signature(function)}", call)
                    self.assertEqual(function.__module__, f"slidebox.{file}")
