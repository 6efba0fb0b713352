"""Products of boxes, and the lattice boxes that tell how often a product comes."""

from slidebox.errors import NoShape, TooBig, TooMany
from slidebox.pairs import boxes, reading
from slidebox.things import MOST_PLACES, is_shape, row_length

MOST_OUTER_PLACES = 8


def product(one, other):
    word = reading(one) + reading(other)
    if len(word) > MOST_PLACES:
        raise TooBig("the two boxes have too many places together")
    return boxes(word)[0]


def lattice_boxes(outer, inner, weight):
    if not is_shape(outer) or not is_shape(inner) or not is_shape(weight):
        raise NoShape("lattice boxes have three shapes")
    if sum(outer) > MOST_OUTER_PLACES:
        raise TooMany("the outer shape has too many places")
    if not lies_in(inner, outer) or sum(inner) + sum(weight) != sum(outer):
        return []
    fillings = [{}]
    for place in places_from_right(outer, inner):
        fillings = with_place_filled(fillings, place, weight)
    return sorted([(inner, rows_of(filling, outer, inner)) for filling in fillings])


def lies_in(inner, outer):
    return all([length <= row_length(outer, row) for row, length in enumerate(inner)])


def places_from_right(outer, inner):
    places = []
    for row, length in enumerate(outer):
        places.extend([(row, column) for column in range(length - 1, row_length(inner, row) - 1, -1)])
    return places


def with_place_filled(fillings, place, weight):
    # A filling holds the letters by their places, in the order in which they came.
    grown = []
    for filling in fillings:
        for letter in range(1, len(weight) + 1):
            if stands_well(filling, place, letter) and may_come(list(filling.values()), letter, weight):
                longer = dict(filling)
                longer[place] = letter
                grown.append(longer)
    return grown


def stands_well(filling, place, letter):
    # Where no letter stands to the right, or above, nothing is asked.
    right = filling.get((place[0], place[1] + 1), letter)
    above = filling.get((place[0] - 1, place[1]), 0)
    return above < letter <= right


def may_come(came, letter, weight):
    if came.count(letter) == weight[letter - 1]:
        return False
    return letter == 1 or came.count(letter) < came.count(letter - 1)


def rows_of(filling, outer, inner):
    return tuple([row_of(filling, row, row_length(inner, row), length) for row, length in enumerate(outer)])


def row_of(filling, row, begin, end):
    return tuple([filling[(row, column)] for column in range(begin, end)])
