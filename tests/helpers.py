"""What several test files need: things of any kind, all small words and boxes, and boxes told without putting in."""

from itertools import combinations, product

from slidebox.errors import BoxError

# A row of words that are spread over all letters, of each length from 0 to 16.
LONG_WORDS = [tuple((7 * k * k + 11 * k) % 30 + 1 for k in range(length)) for length in range(17)]
LONG_WORDS += [tuple((5 * k * k + 2 * k) % 4 + 1 for k in range(length)) for length in range(17)]
EDGE_WORDS = [
    (), (1,), (30,), (30,) * 16, (1,) * 16,
    tuple(range(1, 17)), tuple(range(15, 31)),
    tuple(range(16, 0, -1)), tuple(range(30, 14, -1)),
    (1, 30) * 8, (30, 1) * 8,
]

# Words of unlike letters 1 to n, of each length to 16: the order in which multiples of 3, 5 or 7 are met in a ring.
UNLIKE_WORDS = [tuple(k * step % modulus for k in range(1, modulus))
                for modulus in (2, 3, 4, 5, 7, 8, 11, 13, 16, 17) for step in (1, 3, 5, 7)
                if sorted(k * step % modulus for k in range(1, modulus)) == list(range(1, modulus))]
UNLIKE_WORDS += [tuple(sorted(range(1, length + 1), key=lambda k: k * k * 7 % 23 * 100 + k)) for length in range(17)]

ROW_OF_16 = (1,) * 16
COLUMN_OF_16 = tuple((letter,) for letter in range(1, 17))
SQUARE_OF_16 = ((1, 1, 1, 1), (2, 2, 2, 2), (3, 3, 3, 3), (30, 30, 30, 30))
WRONG_SHAPES = [
    5, None, "", "21", [], [2, 1], {}, {2: 1}, (0,), (2, 0), (1, 2), (3, 1, 2), (-1,), (3, -1), (17,), (1,) * 17,
    (16, 1), (9, 8), (True,), (2, True), (1, False), (False,), (2, None), (2, "1"), (2, [1]), ((2, 1),), ((2,), (1,)),
    (2.0, 1),
]
WRONG_BOXES = [
    5, None, "", "1", [], {}, (1, 2), [(1,)], ([1],), ((1, 2), [3]), ((),), ((1,), ()), ((2, 1),), ((1,), (1,)),
    ((2,), (1,)), ((1,), (2, 3)), ((0,),), ((31,),), ((1,) * 17,), (ROW_OF_16, (2,)), ((True,),), ((1, True),),
    ((1, False),), ((1, None),), ((1, (2,)),), ("12", "3"), ((1,), "2"),
]


def strange_things():
    """Things of any kind that are no word, no shape, no box, no letter and no row; new ones each time."""
    return [
        None, True, False, -1, 31, 10 ** 40, -10 ** 40, 1.0, 1.5, float("nan"), 2j,
        "", "1", "abc", "12 / 3", b"", b"\x01", [], [1], [1, 2], [[1, 2], [3]], [(1, 2), (3,)],
        {}, {1: 2}, {0: (1,)}, set(), {1}, frozenset([1]), range(3), object(), int, len, iter((1, 2)),
        (None,), (True,), (False,), (1, True), (1.0,), ("1",), ("a", 1), ([],), ([1],), ([1], [2]), ({},), ({1: 1},),
        ((),), ((1,), ()), ((), (1,)), (((),),), (((1,),),), ((1,), None), ((1,), 2), (1, (2,)), ((1,), [2]),
        ((1,), "2"), ((1,), {2: 2}), ([1, 2], (3,)), ((1, None),), ((1, True),), ((True,),), ((False,), (1,)),
        ((1, 2.0),), (("1",),), (([1],),), (({},),), ((1, [2]),), (set(),), (object(),), ((object(),),),
        (0,), (-1,), ((0,),), ((31,),), (1,) * 17, ((1,) * 17,), ((1,),) * 17,
    ]


def refusal(function, *given):
    """The very class of the refusal, or None where none came."""
    try:
        function(*given)
    except BoxError as error:
        return type(error)
    return None


def small_words(letters, most):
    """All words of the letters from 1 on, of at most so many."""
    return [word for length in range(most + 1) for word in product(range(1, letters + 1), repeat=length)]


def shapes_of(places, longest=16):
    """All shapes of just so many places, no row longer than told."""
    if places == 0:
        return [()]
    return [(first,) + rest for first in range(min(places, longest), 0, -1)
            for rest in shapes_of(places - first, first)]


def small_shapes(most):
    """All shapes of at most so many places."""
    return [shape for places in range(most + 1) for shape in shapes_of(places)]


def filled(shape, letters):
    """A shape's rows with these letters, row by row."""
    rows = []
    begin = 0
    for length in shape:
        rows.append(tuple(letters[begin:begin + length]))
        begin += length
    return tuple(rows)


def letters_by_place(rows, hole=()):
    """The letters of rows that stand behind a hole, by their places."""
    begins = hole + (0,) * len(rows)
    return {(r, begins[r] + c): letter for r, row in enumerate(rows) for c, letter in enumerate(row)}


def stands_well(rows, hole=()):
    """Whether no two letters side by side in these rows are against point 3, place by place."""
    places = letters_by_place(rows, hole)
    return all(
        letter <= places.get((r, c + 1), letter) and letter < places.get((r + 1, c), letter + 1)
        for (r, c), letter in places.items()
    )


def small_boxes(letters, most):
    """All boxes of the letters from 1 on, of at most so many places."""
    fillings = [filled(shape, parts) for shape in small_shapes(most)
                for parts in product(range(1, letters + 1), repeat=sum(shape))]
    return [rows for rows in fillings if stands_well(rows)]


def inner_shapes(outer):
    """All shapes that lie in a shape."""
    inner = [shape for shape in small_shapes(sum(outer)) if len(shape) <= len(outer)]
    return [shape for shape in inner if all(part <= whole for part, whole in zip(shape, outer))]


def row_lengths(outer, hole):
    """How many letters each row has between a hole and an outer shape."""
    return [whole - part for whole, part in zip(outer, hole + (0,) * len(outer))]


def small_holed(letters, most):
    """All boxes with a hole of the letters from 1 on, of at most so many places together."""
    pairs = [(outer, hole) for outer in small_shapes(most) for hole in inner_shapes(outer)]
    fillings = [(hole, filled(row_lengths(outer, hole), parts)) for outer, hole in pairs
                for parts in product(range(1, letters + 1), repeat=sum(outer) - sum(hole))]
    return [(hole, rows) for hole, rows in fillings if stands_well(rows, hole)]


def cut_out(box, hole):
    """The box with a hole that is left of a box where the hole's letters are taken away."""
    begins = hole + (0,) * len(box)
    return (hole, tuple(row[begins[r]:] for r, row in enumerate(box)))


def full_boxes_of(shape):
    """All full boxes of a shape, grown place by place."""
    grown = [((),) * len(shape)]
    for number in range(1, sum(shape) + 1):
        grown = [rows[:r] + (rows[r] + (number,),) + rows[r + 1:] for rows in grown for r in range(len(shape))
                 if len(rows[r]) < shape[r] and (r == 0 or len(rows[r]) < len(rows[r - 1]))]
    return grown


def corner_rows(box):
    """The rows of a box that have a corner."""
    return [r for r in range(len(box)) if r + 1 == len(box) or len(box[r]) > len(box[r + 1])]


def exchanges_of(word):
    """All words that one exchange makes of a word, each rule of point 7 there and back as it is told."""
    found = set()
    for k in range(len(word) - 2):
        a, b, c = word[k:k + 3]
        made = []
        if b < a <= c:      # (y, x, z), x < y <= z
            made.append((a, c, b))
        if c < a <= b:      # (y, z, x)
            made.append((a, c, b))
        if a <= c < b:      # (x, z, y), x <= y < z
            made.append((b, a, c))
        if b <= c < a:      # (z, x, y)
            made.append((b, a, c))
        found.update(word[:k] + three + word[k + 3:] for three in made)
    return found


def distances_from(word):
    """Each word that exchanges make of a word, with the number of exchanges it takes at least."""
    distances = {word: 0}
    newest = [word]
    while newest:
        newest = [(other, distances[one] + 1) for one in newest for other in exchanges_of(one)
                  if other not in distances]
        distances.update(newest)
        newest = list(dict(newest))
    return distances


def longest_fall_of(word):
    """How many places the longest fall of a word has."""
    ends = []
    for k, letter in enumerate(word):
        ends.append(1 + max([ends[j] for j in range(k) if word[j] > letter], default=0))
    return max(ends, default=0)


def most_in_rises(word, many):
    """How many places so many rises have together at most: a choice is so many rises if no fall in it is longer."""
    for size in range(len(word), -1, -1):
        if any(longest_fall_of(choice) <= many for choice in combinations(word, size)):
            return size


def shape_by_rises(word):
    """The shape of a word's box by point 9, no box being made."""
    sums = [0]
    while sums[-1] < len(word):
        sums.append(most_in_rises(word, len(sums)))
    return tuple(b - a for a, b in zip(sums, sums[1:]))


def box_of_shapes(steps):
    """The rows that hold each step's number where its shape has more than the one ahead."""
    rows = [[] for length in steps[-1]]
    for number, shape in enumerate(steps, start=1):
        for r, length in enumerate(shape):
            rows[r] += [number] * (length - len(rows[r]))
    return tuple(tuple(row) for row in rows)


def boxes_by_rises(word):
    """Both boxes of a word, by the shapes of its small letters and of its beginnings."""
    if word == ():
        return ((), ())
    by_letter = [shape_by_rises([x for x in word if x <= most]) for most in range(1, max(word) + 1)]
    by_time = [shape_by_rises(word[:length]) for length in range(1, len(word) + 1)]
    return (box_of_shapes(by_letter), box_of_shapes(by_time))
