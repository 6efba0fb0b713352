"""Points 14 and 15: tables and their pairs of boxes, and the growth of a word."""

import unittest
from itertools import permutations, product

from slidebox.errors import NoBox, NoTable, NoWord, Unlike
from slidebox.pairs import boxes
from slidebox.tables import growth, pair_of, table_of
from slidebox.things import is_box, is_shape, shape_of
from tests.helpers import (COLUMN_OF_16, LONG_WORDS, ROW_OF_16, SQUARE_OF_16, UNLIKE_WORDS, WRONG_BOXES,
                           boxes_by_rises, full_boxes_of, refusal, shape_by_rises, small_boxes, small_shapes,
                           strange_things)


def tables_of(rows, columns, most):
    """All tables of so many rows and columns, the numbers together at most so many."""
    fillings = [parts for parts in product(range(most + 1), repeat=rows * columns) if sum(parts) <= most]
    return [tuple(parts[k * columns:(k + 1) * columns] for k in range(rows)) for parts in fillings]


def spread_table(rows, columns, step, most):
    """A table in which so many are counted one by one, at places spread over it."""
    table = [[0] * columns for row in range(rows)]
    for k in range(most):
        place = (k * k * step + 3 * k) % (rows * columns)
        table[place // columns][place % columns] += 1
    return tuple(tuple(row) for row in table)


SMALL = [table for rows in (1, 2, 3) for columns in (1, 2, 3) for table in tables_of(rows, columns, 3)]
SMALL += tables_of(2, 2, 5) + tables_of(1, 5, 3) + tables_of(5, 1, 3) + tables_of(4, 2, 2) + tables_of(2, 4, 2)
LONG = [spread_table(rows, columns, step, most) for rows in range(1, 6) for columns in range(1, 6)
        for step in (1, 2, 7) for most in (0, 5, 11, 15, 16)]
LONG += [tuple((0,) * columns for row in range(rows)) for rows in range(1, 6) for columns in range(1, 6)]
LONG += [((16,),), ((0, 16),), ((0,), (16,)), ((0,) * 5,) * 4 + ((0, 0, 0, 0, 16),)]
LONG += [tuple(tuple(int(j == k) for j in order) for k in range(5)) for order in permutations(range(5))]
WRONG = [
    5, None, "", "1", [], {}, {0: (1,)},
    # no rows, six rows; no columns, six columns; rows of unlike length
    (), ((0,),) * 6, ((1,),) * 6, ((),), ((), ()), ((), (1,)), ((0,) * 6,), ((1,) * 6, (1,) * 6), ((0,) * 6,) * 6,
    ((1, 2), (3,)), ((1,), (2, 3)), ((1,), (2,), ()), ((0, 0), (0, 0), (0, 0, 0)), ((0,) * 5, (0,) * 6),
    # rows as lists, and other things than rows
    [(1,)], [[1]], ([1],), ((1,), [1]), ([], []), (1,), (1, 2), (0,), ("1",), ("12", "34"), ((1,), "1"), ((1,), None),
    ({},), ({1: 1},), ((1,), {0: 1}), (((1,),),), ((1, 2), 3), (None,),
    # numbers below 0, and what is no number
    ((-1,),), ((1, -1),), ((0,), (-1,)), ((17, -1),), ((20, -10), (3, 3)), ((1, None),), ((1, "1"),), ((1, 1.0),),
    ((1, [1]),), ((1, (1,)),), ((True,),), ((False,),), ((1, True), (0, 0)), ((0, 0), (0, False)), (True,), True,
    # 17 together
    ((17,),), ((16, 1),), ((16,), (1,)), ((4, 4), (4, 5)), ((1,) * 5,) * 4, ((10 ** 40,),), ((4,) * 5,) * 5,
]
SIDES_THAT_ARE_NONE = [0, 6, -1, 7, 10 ** 40, True, False, None, "1", "", 1.0, 2.5, [], [1], (), (1,), {}, {1: 1}]


def words_of(table):
    """The word of the columns' numbers, and that of the rows' numbers, place by place."""
    places = [(r, c) for r, row in enumerate(table, start=1) for c, often in enumerate(row, start=1)
              for k in range(often)]
    return (tuple(c for r, c in places), tuple(r for r, c in places))


def turned_about(table):
    return tuple(zip(*table))


class Pairs(unittest.TestCase):
    def test_known_ones(self):
        for table, one, other in [
            (((0,),), (), ()), (((3,),), ((1, 1, 1),), ((1, 1, 1),)), (((0, 0), (0, 0)), (), ()),
            (((1, 0), (0, 1)), ((1, 2),), ((1, 2),)), (((0, 1), (1, 0)), ((1,), (2,)), ((1,), (2,))),
            (((0, 2),), ((2, 2),), ((1, 1),)), (((0,), (2,)), ((1, 1),), ((2, 2),)),
            (((1, 0, 2), (0, 2, 0), (1, 1, 0)), ((1, 1, 2, 2), (2, 3), (3,)), ((1, 1, 1, 3), (2, 2), (3,))),
            (((0, 0, 1), (1, 0, 0), (0, 1, 0)), ((1, 2), (3,)), ((1, 3), (2,))),
            (((16,),), (ROW_OF_16,), (ROW_OF_16,)),
            (((0, 1), (2, 0)), ((1, 1), (2,)), ((1, 2), (2,))),
        ]:
            with self.subTest(table=table):
                self.assertEqual(pair_of(table), (one, other))

    def test_small_ones_by_rises(self):
        for table in SMALL:
            one, other = pair_of(table)
            letters, rows = words_of(table)
            self.assertEqual(one, boxes_by_rises(letters)[0])
            # The rows' numbers up to k stand where the box of the first k rows has its places.
            for k in range(1, len(table) + 1):
                ahead = [c for c, r in zip(letters, rows) if r <= k]
                lengths = [len([r for r in row if r <= k]) for row in other]
                self.assertEqual(tuple(length for length in lengths if length), shape_by_rises(ahead))

    def test_numbers_at_the_places_that_came(self):
        for table in SMALL + LONG:
            letters, rows = words_of(table)
            box, times = boxes(letters)
            self.assertEqual(pair_of(table), (box, tuple(tuple(rows[k - 1] for k in row) for row in times)))

    def test_what_they_are(self):
        for table in SMALL + LONG:
            pair = pair_of(table)
            self.assertIs(type(pair), tuple)
            self.assertEqual(len(pair), 2)
            self.assertIs(is_box(pair[0]), True)
            self.assertIs(is_box(pair[1]), True)
            self.assertEqual(shape_of(pair[0]), shape_of(pair[1]))

    def test_turned_about(self):
        for table in SMALL + LONG:
            one, other = pair_of(table)
            self.assertEqual(pair_of(turned_about(table)), (other, one))

    def test_no_table(self):
        for thing in WRONG + [thing for thing in strange_things() if thing != ((0,),)]:
            with self.subTest(thing=thing):
                self.assertIs(refusal(pair_of, thing), NoTable)

    def test_examples_reach_all_edges(self):
        self.assertEqual(len(set((len(table), len(table[0])) for table in LONG)), 25)
        self.assertEqual(set(sum(map(sum, table)) for table in LONG), {0, 5, 11, 15, 16})


class TablesToldBack(unittest.TestCase):
    def test_table_of_the_pair(self):
        for table in SMALL + LONG:
            one, other = pair_of(table)
            self.assertEqual(table_of(one, other, len(table), len(table[0])), table)

    def test_kinds(self):
        for table in LONG:
            told = table_of(*pair_of(table), len(table), len(table[0]))
            self.assertIs(type(told), tuple)
            self.assertTrue(all(type(row) is tuple and all(type(number) is int for number in row) for row in told))

    def test_more_rows_and_columns_than_there_are_letters(self):
        self.assertEqual(table_of((), (), 2, 3), ((0, 0, 0), (0, 0, 0)))
        self.assertEqual(table_of((), (), 5, 1), ((0,),) * 5)
        self.assertEqual(table_of(((1, 2),), ((1, 1),), 2, 3), ((1, 1, 0), (0, 0, 0)))
        self.assertEqual(table_of(((1,), (2,)), ((1,), (3,)), 4, 2), ((0, 1), (0, 0), (1, 0), (0, 0)))
        for table in LONG:
            one, other = pair_of(table)
            wider = tuple(row + (0,) * (5 - len(row)) for row in table) + ((0,) * 5,) * (5 - len(table))
            self.assertEqual(table_of(one, other, 5, 5), wider)

    def check_pair(self, one, other, rows, columns):
        told = table_of(one, other, rows, columns)
        self.assertEqual((len(told), set(map(len, told))), (rows, {columns}))
        self.assertEqual(pair_of(told), (one, other))

    def test_pair_of_the_table(self):
        small = small_boxes(3, 4)
        for one, other in product(small, repeat=2):
            if shape_of(one) == shape_of(other):
                self.check_pair(one, other, 3, 3)
                self.check_pair(one, other, max(sum(other, (1,))), max(sum(one, (1,))))

    def test_pair_of_the_table_with_letters_to_5(self):
        for shape in small_shapes(5):
            for one, other in product(full_boxes_of(shape), repeat=2):
                self.check_pair(one, other, 5, 5)

    def test_pair_of_the_table_at_16_places(self):
        wide = ((1, 1, 1, 1), (2, 2, 2, 2), (3, 3, 3, 3), (4, 4, 4, 4))
        late = ((1, 1, 2, 2), (2, 2, 3, 3), (3, 4, 4, 4), (5, 5, 5, 5))
        mixed = ((1, 1, 1, 2), (2, 3, 3, 3), (3, 4, 4, 4), (4, 5, 5, 5))
        for one, other in product([wide, late, mixed], repeat=2):
            self.check_pair(one, other, 5, 5)
        stairs = [((1, 1, 1, 1, 2, 3), (2, 2, 2, 3), (3, 4, 4), (4, 5), (5,)),
                  ((1, 2, 2, 3, 4, 5), (2, 3, 4, 5), (3, 4, 5), (4, 5), (5,))]
        for one, other in product(stairs, repeat=2):
            self.check_pair(one, other, 5, 5)

    def test_no_box(self):
        for thing in WRONG_BOXES + strange_things():
            with self.subTest(thing=thing):
                for box in [(), ((1,),), ((30, 30),)]:
                    for rows, columns in [(1, 1), (0, 5), (None, True)]:
                        self.assertIs(refusal(table_of, thing, box, rows, columns), NoBox)
                        self.assertIs(refusal(table_of, box, thing, rows, columns), NoBox)
                self.assertIs(refusal(table_of, thing, thing, 5, 5), NoBox)
                self.assertIs(refusal(table_of, thing, thing, thing, thing), NoBox)

    def test_unlike(self):
        for one, other in [((), ((1,),)), (((1,),), ()), (((1, 2),), ((1,), (2,))), (((1, 1), (2,)), ((1, 1, 1),)),
                           (((1, 1), (2, 2)), ((1, 1), (2,))), (SQUARE_OF_16, COLUMN_OF_16), (((30,),), ((30, 30),))]:
            for rows, columns in [(5, 5), (1, 1), (0, 6), (None, []), (True, False)]:
                with self.subTest(one=one, other=other, rows=rows, columns=columns):
                    self.assertIs(refusal(table_of, one, other, rows, columns), Unlike)

    def test_no_such_rows_or_columns(self):
        for side in SIDES_THAT_ARE_NONE:
            with self.subTest(side=side):
                for box in [(), ((1,),)]:
                    self.assertIs(refusal(table_of, box, box, side, 5), NoTable)
                    self.assertIs(refusal(table_of, box, box, 5, side), NoTable)
                    self.assertIs(refusal(table_of, box, box, side, side), NoTable)
        for thing in strange_things():
            with self.subTest(thing=thing):
                self.assertIs(refusal(table_of, (), (), thing, 1), NoTable)
                self.assertIs(refusal(table_of, (), (), 1, thing), NoTable)

    def test_a_letter_is_greater(self):
        one = ((1, 2), (4,))
        other = ((1, 1), (3,))
        self.assertIsNone(refusal(table_of, one, other, 3, 4))
        for rows, columns in [(2, 4), (3, 3), (4, 3), (2, 5), (1, 1), (2, 2)]:
            self.assertIs(refusal(table_of, one, other, rows, columns), NoTable)
        # A letter that is greater and does not stand last of all.
        self.assertIs(refusal(table_of, ((1, 5), (2,)), ((1, 1), (2,)), 5, 4), NoTable)
        self.assertIs(refusal(table_of, ((1, 1), (2,)), ((1, 5), (2,)), 4, 5), NoTable)
        for box in [((6,),), ((30,),), ((1, 6), (2,)), COLUMN_OF_16, SQUARE_OF_16]:
            self.assertIs(refusal(table_of, box, box, 5, 5), NoTable)


class Growth(unittest.TestCase):
    def test_known_ones(self):
        for word, answer in [
            ((), [[()]]),
            ((1,), [[(), ()], [(), (1,)]]),
            ((1, 2), [[(), (), ()], [(), (1,), (1,)], [(), (1,), (2,)]]),
            ((2, 1), [[(), (), ()], [(), (), (1,)], [(), (1,), (1, 1)]]),
            ((2, 3, 1), [[(), (), (), ()], [(), (), (1,), (1,)], [(), (), (1,), (2,)], [(), (1,), (1, 1), (2, 1)]]),
        ]:
            with self.subTest(word=word):
                self.assertEqual(growth(word), answer)

    def test_small_words_by_rises(self):
        for length in range(6):
            for word in permutations(range(1, length + 1)):
                self.assertEqual(growth(word), [[shape_by_rises([x for x in word[:i] if x <= j])
                                                 for j in range(length + 1)] for i in range(length + 1)])

    def test_by_boxes(self):
        for word in list(permutations(range(1, 7))) + UNLIKE_WORDS:
            found = growth(word)
            self.assertEqual(len(found), len(word) + 1)
            for i, row in enumerate(found):
                self.assertEqual(len(row), len(word) + 1)
                for j, shape in enumerate(row):
                    self.assertEqual(shape, shape_of(boxes(tuple(x for x in word[:i] if x <= j))[0]))

    def test_corner_by_corner(self):
        for word in list(permutations(range(1, 6))) + UNLIKE_WORDS:
            found = growth(word)
            for i in range(len(word)):
                for j in range(len(word)):
                    self.check_square(found[i][j], found[i][j + 1], found[i + 1][j], found[i + 1][j + 1],
                                      word[i] == j + 1)

    def check_square(self, a, b, c, d, here):
        a, b, c, d = [shape + (0,) * (17 - len(shape)) for shape in (a, b, c, d)]
        if here:
            self.assertTrue(a == b == c)
            self.assertEqual(d, (a[0] + 1,) + a[1:])
        elif b == c and b != a:
            row = [k for k in range(17) if b[k] > a[k]][0] + 1
            self.assertEqual(d, b[:row] + (b[row] + 1,) + b[row + 1:])
        else:
            self.assertEqual(d, tuple(max(pair) for pair in zip(b, c)))

    def test_kinds(self):
        for word in UNLIKE_WORDS:
            found = growth(word)
            self.assertIs(type(found), list)
            self.assertTrue(all(type(row) is list for row in found))
            self.assertTrue(all(is_shape(shape) for row in found for shape in row))
            self.assertEqual(len(set(map(id, found))), len(word) + 1)

    def test_no_word(self):
        wrong = [
            5, "12", "", [], [1], [2, 1], {}, {1: 2}, None, (0,), (0, 1), (-1, 1), (31,), ((1,),), ((1, 2), (3,)),
            (True,), (True, 2), (2, True), (1, False), (1, None), (1, "2"), (1, 2.0), (1, [2]),
            tuple(range(1, 18)), (1,) * 17,
            # like letters, and letters greater than n
            (1, 1), (2, 2), (1, 2, 2), (1, 1, 2), (3, 1, 3), (2,), (30,), (1, 3), (3, 1), (2, 3), (1, 2, 4), (30, 1),
            tuple(range(2, 18)), tuple(range(15, 31)), (1,) * 16, tuple(range(1, 16)) + (17,),
            tuple(range(1, 16)) + (15,), tuple(range(16)),
        ]
        for thing in wrong + strange_things() + [word for word in LONG_WORDS if len(word) > 3]:
            with self.subTest(thing=thing):
                self.assertIs(refusal(growth, thing), NoWord)
