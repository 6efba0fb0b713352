"""Points 8 and 9: rises and falls, falls that cover a word, several rises at once."""

import unittest
from itertools import combinations, permutations

from slidebox.errors import NoWord
from slidebox.pairs import boxes, word_of
from slidebox.rises import cover, longest_fall, longest_rise, rises
from tests.helpers import (EDGE_WORDS, LONG_WORDS, longest_fall_of, most_in_rises, refusal, small_words,
                           strange_things)

COUNTING = tuple(range(1, 17))
WRONG_WORDS = [5, [1, 2], "12", (0,), (31,), (1, 31), (1,) * 17, (True,), (2, True), (2, 1, False), (1, None),
               ((1, 2), (3,)), ((1,),), {1: 2}, (1, [2]), (1, (2,)), (1, {}), (1, "2")]
SQUARES = [((1, 2, 3, 4), (5, 6, 7, 8), (9, 10, 11, 12), (13, 14, 15, 16)),
           ((1, 5, 9, 13), (2, 6, 10, 14), (3, 7, 11, 15), (4, 8, 12, 16)),
           ((1, 2, 5, 10), (3, 4, 7, 12), (6, 9, 11, 14), (8, 13, 15, 16))]
LIKE_SQUARE = ((1, 1, 1, 2), (2, 2, 3, 3), (3, 4, 4, 4), (5, 5, 6, 6))
SQUARE_WORDS = [word_of(box, times) for box in SQUARES + [LIKE_SQUARE] for times in SQUARES]
WORDS = EDGE_WORDS + LONG_WORDS + SQUARE_WORDS + small_words(3, 5) + list(permutations(range(1, 6)))
# Whichever longest rise is taken first, what is left has no rise that is long enough.
NOT_ONE_BEHIND_THE_OTHER = [
    (4, 1, 2, 5, 6, 3), (2, 3, 6, 1, 4, 5), (3, 1, 1, 3, 3, 2), (2, 1, 1, 2, 2, 1), (5, 6, 1, 2, 3, 7, 8, 4),
    (3, 4, 1, 1, 2, 5, 5, 2), (4, 1, 2, 5, 6, 3, 14, 11, 12, 15, 16, 13),
]


def one_behind_the_other(word):
    """How many places two rises have at most of which the first is a longest one."""
    size = longest_rise_of(word)
    longest = [choice for choice in combinations(range(len(word)), size)
               if longest_rise_of([word[k] for k in choice]) == size]
    return size + max(longest_rise_of([word[k] for k in range(len(word)) if k not in choice]) for choice in longest)


def longest_rise_of(word):
    """How many places the longest rise of a word has."""
    ends = []
    for k, letter in enumerate(word):
        ends.append(1 + max([ends[j] for j in range(k) if word[j] <= letter], default=0))
    return max(ends, default=0)


class Choices(unittest.TestCase):
    def check_places(self, word, places):
        self.assertIs(type(places), list)
        for place in places:
            self.assertIs(type(place), int)
            self.assertTrue(0 <= place < len(word))
        self.assertTrue(all(one < other for one, other in zip(places, places[1:])))

    def check_rise(self, word, places):
        self.check_places(word, places)
        letters = [word[place] for place in places]
        self.assertTrue(all(one <= other for one, other in zip(letters, letters[1:])))

    def check_fall(self, word, places):
        self.check_places(word, places)
        letters = [word[place] for place in places]
        self.assertTrue(all(one > other for one, other in zip(letters, letters[1:])))


class LongestRises(Choices):
    def test_where_there_is_but_one(self):
        for word, places in [((), []), ((9,), [0]), ((1, 2), [0, 1]), ((1, 1), [0, 1]), ((3, 1, 2), [1, 2]),
                             ((2, 3, 1), [0, 1]), ((1, 5, 1, 1), [0, 2, 3]), ((2, 1, 2, 1, 1), [1, 3, 4]),
                             ((7, 3, 5, 9, 4, 9, 1), [1, 2, 3, 5])]:
            with self.subTest(word=word):
                self.assertEqual(longest_rise(word), places)

    def test_like_letters_do_not_fall(self):
        self.assertEqual(longest_rise((30,) * 16), list(range(16)))
        self.assertEqual(longest_rise((1,) * 16), list(range(16)))
        self.assertEqual(longest_rise(COUNTING), list(range(16)))
        self.assertEqual(len(longest_rise(COUNTING[::-1])), 1)

    def test_each_is_a_longest_rise(self):
        for word in WORDS + NOT_ONE_BEHIND_THE_OTHER:
            self.check_rise(word, longest_rise(word))
            self.assertEqual(len(longest_rise(word)), longest_rise_of(word))

    def test_as_many_as_the_first_row(self):
        for word in WORDS:
            self.assertEqual(len(longest_rise(word)), len((boxes(word)[0] + ((),))[0]))

    def test_no_word(self):
        for thing in strange_things() + WRONG_WORDS:
            with self.subTest(thing=thing):
                self.assertIs(refusal(longest_rise, thing), NoWord)


class LongestFalls(Choices):
    def test_where_there_is_but_one(self):
        for word, places in [((), []), ((9,), [0]), ((2, 1), [0, 1]), ((2, 2, 1), None), ((1, 3, 2), [1, 2]),
                             ((3, 1, 1, 2, 1), [0, 3, 4]), ((4, 9, 3, 6, 5, 2), [1, 3, 4, 5])]:
            with self.subTest(word=word):
                if places is None:
                    self.assertIn(longest_fall(word), [[0, 2], [1, 2]])
                else:
                    self.assertEqual(longest_fall(word), places)

    def test_like_letters_do_not_become_less(self):
        for word in [(1, 1), (30,) * 16, (1,) * 16, COUNTING, (1, 1, 2, 2)]:
            self.assertEqual(len(longest_fall(word)), 1)
        self.assertEqual(longest_fall(COUNTING[::-1]), list(range(16)))

    def test_each_is_a_longest_fall(self):
        for word in WORDS + NOT_ONE_BEHIND_THE_OTHER:
            self.check_fall(word, longest_fall(word))
            self.assertEqual(len(longest_fall(word)), longest_fall_of(word))

    def test_as_many_as_rows(self):
        for word in WORDS:
            self.assertEqual(len(longest_fall(word)), len(boxes(word)[0]))

    def test_no_word(self):
        for thing in strange_things() + WRONG_WORDS:
            with self.subTest(thing=thing):
                self.assertIs(refusal(longest_fall, thing), NoWord)


class Covers(Choices):
    def test_known_ones(self):
        for word, falls in [((), []), ((5,), [[0]]), ((1, 1), [[0], [1]]), ((2, 1), [[0, 1]]),
                            ((1, 2), [[0], [1]]), (COUNTING[::-1], [list(range(16))]),
                            (COUNTING, [[k] for k in range(16)]), ((4,) * 16, [[k] for k in range(16)])]:
            with self.subTest(word=word):
                self.assertEqual(sorted(cover(word)), falls)

    def test_each_place_in_just_one_fall(self):
        for word in WORDS + NOT_ONE_BEHIND_THE_OTHER:
            falls = cover(word)
            self.assertIs(type(falls), list)
            for fall in falls:
                self.check_fall(word, fall)
            self.assertEqual(sorted(sum(falls, [])), list(range(len(word))))

    def test_as_many_as_the_longest_rise_has_places(self):
        for word in WORDS + NOT_ONE_BEHIND_THE_OTHER:
            self.assertEqual(len(cover(word)), longest_rise_of(word))
            self.assertEqual(len(cover(word)), len(longest_rise(word)))

    def test_no_word(self):
        for thing in strange_things() + WRONG_WORDS:
            with self.subTest(thing=thing):
                self.assertIs(refusal(cover, thing), NoWord)


class SeveralRises(Choices):
    def check(self, word, many):
        """That they are so many rises without a common place; the answer is how many places they have."""
        found = rises(word, many)
        self.assertIs(type(found), list)
        self.assertEqual(len(found), many)
        for rise in found:
            self.check_rise(word, rise)
        places = sum(found, [])
        self.assertEqual(len(places), len(set(places)))
        return len(places)

    def test_known_ones(self):
        self.assertEqual(rises((), 1), [[]])
        self.assertEqual(rises((), 3), [[], [], []])
        self.assertEqual(rises((5, 6), 1), [[0, 1]])
        self.assertEqual(sorted(rises((2, 1), 2)), [[0], [1]])
        self.assertEqual(sorted(rises((4, 1, 2, 5, 6, 3), 2)), [[0, 3, 4], [1, 2, 5]])
        self.assertEqual(sorted(rises((2, 1, 2, 1), 2)), [[0, 2], [1, 3]])

    def test_small_words_none_have_more(self):
        for word in small_words(3, 5) + list(permutations(range(1, 6))):
            for many in range(1, 7):
                self.assertEqual(self.check(word, many), most_in_rises(word, many))

    def test_words_of_6_to_8_letters_none_have_more(self):
        longer = list(permutations(range(1, 7)))[::3] + small_words(3, 7)[-2187::7]
        longer += list(permutations(range(1, 9)))[::997]
        for word in longer:
            for many in (1, 2, 3):
                self.assertEqual(self.check(word, many), most_in_rises(word, many))

    def test_as_many_places_as_the_first_rows(self):
        for word in EDGE_WORDS + LONG_WORDS + SQUARE_WORDS + NOT_ONE_BEHIND_THE_OTHER:
            for many in range(1, 17):
                with self.subTest(word=word, many=many):
                    first_rows = boxes(word)[0][:many]
                    self.assertEqual(self.check(word, many), sum(len(row) for row in first_rows))

    def test_longest_rises_one_behind_the_other_are_not_enough(self):
        for word in NOT_ONE_BEHIND_THE_OTHER:
            with self.subTest(word=word):
                self.assertEqual(self.check(word, 2), most_in_rises(word, 2))
                self.assertGreater(self.check(word, 2), one_behind_the_other(word))

    def test_some_are_empty(self):
        for word in EDGE_WORDS + LONG_WORDS:
            found = rises(word, 16)
            self.assertEqual(len(found), 16)
            self.assertEqual(sorted(sum(found, [])), list(range(len(word))))
        self.assertEqual(sorted(rises(COUNTING, 3)), [[], [], list(range(16))])
        self.assertEqual(sorted(rises(COUNTING[::-1], 16)), [[k] for k in range(16)])

    def test_more_than_16(self):
        for word in [(), (2, 1), COUNTING, COUNTING[::-1]]:
            for many in (17, 20):
                self.assertEqual(self.check(word, many), len(word))

    def test_no_word(self):
        for thing in strange_things() + WRONG_WORDS:
            for many in (1, 2, 16, None, True, "2", [2], (2,), {}, thing):
                with self.subTest(thing=thing, many=many):
                    self.assertIs(refusal(rises, thing, many), NoWord)
