"""Rises and falls of a word: the longest ones, falls that cover it, and several rises at once."""

from slidebox.errors import NoWord
from slidebox.exchanges import swaps_to_reading
from slidebox.pairs import boxes
from slidebox.things import is_word


def longest_rise(word):
    return longest_chain(word, rise_goes_on)


def longest_fall(word):
    return longest_chain(word, fall_goes_on)


def cover(word):
    # Of two places at which rises of one length end, the later letter is less: else its rise were longer.
    lengths = chain_lengths(word, rise_goes_on)
    return [places_of(lengths, length) for length in range(1, max(lengths, default=0) + 1)]


def rises(word, many):
    # In the reading the rows themselves are such rises. From there the exchanges are gone back to the word,
    # and each of them leaves the rises as many places as they had.
    owners = owners_in_reading(boxes(word)[0], many)
    for place in swaps_to_reading(word)[::-1]:
        owners = owners_behind_swap(owners, place)
    return [places_of(owners, number) for number in range(many)]


def rise_goes_on(one, other):
    return one <= other


def fall_goes_on(one, other):
    return one > other


def longest_chain(word, goes_on):
    lengths = chain_lengths(word, goes_on)
    wanted = max(lengths, default=0)
    chosen = []
    # Chains of one length never go on from one's end to another's, so if any of those ends goes on
    # to the place chosen before, the nearest one does.
    for place in range(len(word) - 1, -1, -1):
        if lengths[place] == wanted:
            chosen = [place] + chosen
            wanted = wanted - 1
    return chosen


def chain_lengths(word, goes_on):
    # For each place, how many places the longest chain has that ends there.
    if not is_word(word):
        raise NoWord("only a word has rises and falls")
    lengths = []
    for place, letter in enumerate(word):
        ahead = [lengths[k] for k in range(place) if goes_on(word[k], letter)]
        lengths.append(1 + max(ahead, default=0))
    return lengths


def places_of(values, value):
    return [place for place, there in enumerate(values) if there == value]


def owners_in_reading(box, many):
    # For each place the number of the rise that it is in, or None.
    owners = []
    for number, row in enumerate(box):
        owner = number if number < many else None
        owners = [owner] * len(row) + owners
    return owners


def owners_behind_swap(owners, place):
    rise = owners[place]
    if rise is None or rise != owners[place + 1]:
        return owners[:place] + [owners[place + 1], rise] + owners[place + 2:]
    # Both letters are in one rise, so they are x and then z. On the way back from the reading these two are swapped
    # only behind y, x < y <= z: (y, x, z) becomes (y, z, x). The rise takes y in the place of x; and if y was
    # in another one, that goes on from x, so the two change what they have ahead of the three.
    other = owners[place - 1]
    return with_names_swapped(owners[:place - 1], rise, other) + [rise, rise, other] + owners[place + 2:]


def with_names_swapped(owners, one, other):
    # None is no rise: there is nothing to change with.
    if other is None:
        return owners
    names = {one: other, other: one}
    return [names.get(owner, owner) for owner in owners]
