"""Exchanges at three neighbours of a word, and roads of them between alike words."""

from slidebox.errors import NoWord
from slidebox.pairs import boxes
from slidebox.putting import first_greater, put_in
from slidebox.things import is_word


def exchanged(word):
    if not is_word(word):
        raise NoWord("only a word can be exchanged")
    # Each exchange swaps two unlike neighbours, so no two places lead to one word.
    places = [place for place in range(len(word) - 1) if middle_ahead(word, place) or middle_behind(word, place)]
    return sorted([swapped(word, place) for place in places])


def alike(one, other):
    return boxes(one)[0] == boxes(other)[0]


def road(one, other):
    if not alike(one, other):
        return None
    there = words_to_reading(one)
    back = words_to_reading(other)
    # Both end with one reading; where they meet before it, the rest would be gone there and back for nothing.
    meeting = [word for word in there if word in back][0]
    return there[:there.index(meeting)] + back[back.index(meeting)::-1]


def middle_ahead(word, place):
    # Of x < y <= z, x and z may change places behind y.
    if place == 0:
        return False
    return min(word[place], word[place + 1]) < word[place - 1] <= max(word[place], word[place + 1])


def middle_behind(word, place):
    # Of x <= y < z, x and z may change places ahead of y.
    if place + 2 >= len(word):
        return False
    return min(word[place], word[place + 1]) <= word[place + 2] < max(word[place], word[place + 1])


def swapped(word, place):
    return word[:place] + (word[place + 1], word[place]) + word[place + 2:]


def words_to_reading(word):
    words = [word]
    for place in swaps_to_reading(word):
        words.append(swapped(words[-1], place))
    return words


def swaps_to_reading(word):
    # The letters are put into the box one by one; ahead of those to come stands the reading of the box so far.
    box = ()
    places = []
    for number, letter in enumerate(word):
        places.extend(swaps_of_putting(box, letter, number))
        box = put_in(box, letter)[0]
    return places


def swaps_of_putting(box, letter, place_of_letter):
    # The letter stands behind the reading. In each row it goes left to the place of the first greater one,
    # and that one goes on left, out of its row, to where it stands behind the next row.
    places = []
    moving = letter
    end = place_of_letter
    for row in box:
        column = first_greater(row, moving)
        if column == len(row):
            return places
        begin = end - len(row)
        places.extend([place for place in range(end - 1, begin - 1, -1) if place != begin + column])
        moving = row[column]
        end = begin
    return places
