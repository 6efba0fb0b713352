"""Point 7: exchanges, alike words, roads."""

import unittest
from itertools import permutations

from slidebox.errors import NoWord
from slidebox.exchanges import alike, exchanged, road
from slidebox.pairs import boxes, reading, word_of
from tests.helpers import (COLUMN_OF_16, EDGE_WORDS, LONG_WORDS, boxes_by_rises, distances_from, exchanges_of,
                           full_boxes_of, longest_fall_of, refusal, small_words, strange_things)

COUNTING = tuple(range(1, 17))
WRONG_WORDS = [5, [1, 2], "12", (0,), (31,), (1, 31), (1,) * 17, (True,), (2, True), (2, 1, False), (1, None),
               ((1, 2), (3,)), ((1,),), {1: 2}, (1, [2]), (1, (2,)), (1, {}), (1, "2")]
SMALL = small_words(3, 6) + small_words(4, 4) + list(permutations(range(1, 6))) + list(permutations((5, 9, 20, 30)))


class OneExchange(unittest.TestCase):
    def test_both_kinds_there_and_back(self):
        for one, other in [((2, 1, 3), (2, 3, 1)), ((1, 3, 2), (3, 1, 2))]:
            self.assertEqual(exchanged(one), [other])
            self.assertEqual(exchanged(other), [one])

    def test_like_letters(self):
        # x < y = z in the first kind, x = y < z in the second one
        for one, other in [((2, 1, 2), (2, 2, 1)), ((1, 2, 1), (2, 1, 1))]:
            self.assertEqual(exchanged(one), [other])
            self.assertEqual(exchanged(other), [one])
        for word in [(1, 1, 1), (1, 1, 2), (1, 2, 2), (1, 2, 3), (3, 2, 1)]:
            self.assertEqual(exchanged(word), [])

    def test_no_three_neighbours(self):
        for word in [(), (1,), (30,), (1, 2), (2, 1), (1, 1), (30, 1)]:
            self.assertEqual(exchanged(word), [])

    def test_at_every_three_neighbours(self):
        for ahead in range(14):
            word = (1,) * ahead + (20, 10, 30) + (30,) * (13 - ahead)
            self.assertIn((1,) * ahead + (20, 30, 10) + (30,) * (13 - ahead), exchanged(word))
            word = (1,) * ahead + (10, 30, 20) + (30,) * (13 - ahead)
            self.assertIn((1,) * ahead + (30, 10, 20) + (30,) * (13 - ahead), exchanged(word))

    def test_known_ones(self):
        self.assertEqual(exchanged((3, 1, 2, 4)), [(1, 3, 2, 4)])
        self.assertEqual(exchanged((1, 3, 2, 4)), [(1, 3, 4, 2), (3, 1, 2, 4)])
        self.assertEqual(exchanged((4, 1, 5, 2, 3)), [(4, 1, 2, 5, 3), (4, 5, 1, 2, 3)])

    def test_a_word_that_two_exchanges_make_is_told_once(self):
        # 1 and 4 may change places for the 2 ahead of them and for the 3 behind them.
        self.assertEqual(exchanged((2, 1, 4, 3)), [(2, 4, 1, 3)])
        self.assertEqual(exchanged((2, 4, 1, 3)), [(2, 1, 4, 3)])

    def test_small_words_rule_by_rule(self):
        for word in SMALL:
            self.assertEqual(exchanged(word), sorted(exchanges_of(word)))

    def test_long_words_rule_by_rule(self):
        for word in EDGE_WORDS + LONG_WORDS:
            with self.subTest(word=word):
                self.assertEqual(exchanged(word), sorted(exchanges_of(word)))

    def test_kinds(self):
        for word in LONG_WORDS + [(), (1, 2)]:
            self.assertIs(type(exchanged(word)), list)
            for other in exchanged(word):
                self.assertIs(type(other), tuple)

    def test_there_and_back(self):
        for word in LONG_WORDS:
            for other in exchanged(word):
                self.assertIn(word, exchanged(other))
                self.assertEqual(boxes(other)[0], boxes(word)[0])

    def test_no_word(self):
        for thing in strange_things() + WRONG_WORDS:
            with self.subTest(thing=thing):
                self.assertIs(refusal(exchanged, thing), NoWord)


class AlikeWords(unittest.TestCase):
    def test_known_ones(self):
        self.assertIs(alike((), ()), True)
        self.assertIs(alike((5,), (5,)), True)
        self.assertIs(alike((2, 1, 3), (2, 3, 1)), True)
        self.assertIs(alike((1, 3, 2), (3, 1, 2)), True)
        self.assertIs(alike((2, 1, 2), (2, 2, 1)), True)
        self.assertIs(alike((2, 1, 3), (1, 3, 2)), False)
        self.assertIs(alike((1, 2), (2, 1)), False)
        self.assertIs(alike((1, 2), (1, 3)), False)
        self.assertIs(alike((1,), (1, 1)), False)
        self.assertIs(alike((), (1,)), False)
        # of one shape, and of one second box
        self.assertIs(alike((1, 3, 2), (1, 2, 2)), False)
        self.assertIs(alike((1, 3, 2), (2, 3, 1)), False)

    def test_just_where_exchanges_lead(self):
        for words in [list(permutations(range(1, 6))), small_words(2, 6), small_words(3, 4)]:
            for one in words:
                reached = distances_from(one)
                for other in words[::7] + list(reached):
                    self.assertIs(alike(one, other), other in reached)

    def test_just_where_both_are_put_into_one_box(self):
        words = small_words(3, 4)
        by_rises = {word: boxes_by_rises(word)[0] for word in words}
        for one in words:
            for other in words:
                self.assertIs(alike(one, other), by_rises[one] == by_rises[other])

    def test_long_words(self):
        for word in LONG_WORDS + EDGE_WORDS:
            self.assertIs(alike(word, reading(boxes(word)[0])), True)
            for other in exchanged(word):
                self.assertIs(alike(word, other), True)
            for k in range(len(word) - 1):
                other = word[:k] + (word[k + 1], word[k]) + word[k + 2:]
                if longest_fall_of(word) != longest_fall_of(other):
                    self.assertIs(alike(word, other), False)
                    self.assertIsNone(road(word, other))

    def test_a_swap_that_is_no_exchange_but_is_made_by_several(self):
        self.assertNotIn((19, 1, 21, 7, 7), exchanged((1, 19, 21, 7, 7)))
        self.assertIs(alike((1, 19, 21, 7, 7), (19, 1, 21, 7, 7)), True)

    def test_no_word(self):
        for thing in strange_things() + WRONG_WORDS:
            for word in [(), (1,), (2, 1, 3)]:
                with self.subTest(thing=thing, word=word):
                    self.assertIs(refusal(alike, thing, word), NoWord)
                    self.assertIs(refusal(alike, word, thing), NoWord)
            self.assertIs(refusal(alike, thing, thing), NoWord)


class Roads(unittest.TestCase):
    def check(self, one, other):
        words = road(one, other)
        self.assertIs(type(words), list)
        self.assertEqual((words[0], words[-1]), (one, other))
        for word, following in zip(words, words[1:]):
            self.assertIs(type(following), tuple)
            self.assertIn(following, exchanges_of(word))
        return words

    def test_one_exchange(self):
        self.assertEqual(self.check((2, 1, 3), (2, 3, 1)), [(2, 1, 3), (2, 3, 1)])
        self.assertEqual(self.check((3, 1, 2), (1, 3, 2)), [(3, 1, 2), (1, 3, 2)])
        self.assertEqual(self.check((2, 2, 1), (2, 1, 2)), [(2, 2, 1), (2, 1, 2)])

    def test_all_small_ones(self):
        words = list(permutations(range(1, 6))) + small_words(3, 5) + small_words(2, 6)
        for one in words:
            for other in distances_from(one):
                self.check(one, other)

    def test_each_length_to_8(self):
        for word in [(), (7,), (4, 4), (3, 1, 2), (2, 4, 1, 3), (2, 1, 2, 1, 2), (3, 1, 6, 2, 5, 4),
                     (2, 3, 1, 3, 2, 1, 2), (4, 2, 7, 3, 6, 1, 5), (3, 7, 1, 8, 4, 6, 2, 5), (2, 4, 1, 3, 1, 4, 2, 3)]:
            for other in distances_from(word):
                self.check(word, other)

    def test_far_apart(self):
        for start in [(4, 8, 2, 6, 1, 5, 3, 7), (1, 2, 1, 3, 2, 4, 3, 1), (2, 5, 1, 4, 8, 3, 7, 6)]:
            distances = distances_from(start)
            far = max(distances, key=distances.get)
            others = distances_from(far)
            farthest = max(others, key=others.get)
            with self.subTest(start=start, many=others[farthest]):
                self.assertGreaterEqual(others[farthest], 8)
                self.assertGreater(len(self.check(far, farthest)), others[farthest])
                self.check(farthest, far)

    def test_from_a_word_to_itself(self):
        for word in EDGE_WORDS + LONG_WORDS + [(2, 1, 3), (3, 7, 1, 8, 4, 6, 2, 5)]:
            # The shortest one is told: nothing is gone there and back.
            self.assertEqual(self.check(word, word), [word])

    def test_16_letters(self):
        for word in EDGE_WORDS + LONG_WORDS:
            other = reading(boxes(word)[0])
            self.check(word, other)
            self.check(other, word)
        square = ((1, 2, 3, 4), (5, 6, 7, 8), (9, 10, 11, 12), (13, 14, 15, 16))
        columns = ((1, 5, 9, 13), (2, 6, 10, 14), (3, 7, 11, 15), (4, 8, 12, 16))
        mixed = ((1, 2, 5, 10), (3, 4, 7, 12), (6, 9, 11, 14), (8, 13, 15, 16))
        like = ((1, 1, 1, 2), (2, 2, 3, 3), (3, 4, 4, 4), (5, 5, 6, 6))
        for box in [square, mixed, like]:
            for one in [square, columns, mixed]:
                for other in [square, columns, mixed]:
                    self.check(word_of(box, one), word_of(box, other))

    def test_whole_boxes(self):
        box = ((1, 1, 2, 3), (2, 3), (4,))
        words = [word_of(box, times) for times in full_boxes_of((4, 2, 1))]
        for one in words:
            for other in words:
                self.check(one, other)

    def test_none_where_they_are_not_alike(self):
        for one, other in [((1, 2), (2, 1)), ((), (1,)), ((1,), ()), ((1, 2, 3), (1, 2)), ((2, 1, 3), (1, 3, 2)),
                           ((1, 2), (1, 3)), ((1, 1), (1,)), (COUNTING, COUNTING[::-1]),
                           (sum(COLUMN_OF_16, ()), reading(COLUMN_OF_16))]:
            self.assertIsNone(road(one, other))
            self.assertIsNone(road(other, one))
        words = small_words(3, 4)
        for one in words:
            reached = distances_from(one)
            for other in words:
                self.assertIs(road(one, other) is None, other not in reached)

    def test_no_word(self):
        for thing in strange_things() + WRONG_WORDS:
            for word in [(), (1,), (2, 1, 3)]:
                with self.subTest(thing=thing, word=word):
                    self.assertIs(refusal(road, thing, word), NoWord)
                    self.assertIs(refusal(road, word, thing), NoWord)
            self.assertIs(refusal(road, thing, thing), NoWord)
