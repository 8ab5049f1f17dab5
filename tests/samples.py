"""Turnings, floors and looks at what is told, for all tests; made without the program's own functions."""

from itertools import permutations
from math import factorial, gcd

ONE_SQUARE = ((0,), (0,))
# Three squares in an L: 0 and 1 side by side, 2 above 0.
CORNERED = ((1, 0, 2), (2, 1, 0))
# Four squares: right a ring of three and one by itself, up of two rings of two.
FOUR = ((1, 2, 0, 3), (3, 2, 1, 0))
LONG_ROW = tuple(range(1, 20)) + (0,)
TWENTY_SQUARES = (LONG_ROW, tuple(reversed(range(20))))
ONE_ROW = ((1, 2, 3, 0), (0, 1, 2, 3))
ONE_COLUMN = ((0, 1, 2, 3), (1, 2, 3, 0))
# A row of three squares, 0 to 2, and a column of three on square 0: 0, 3 and 4.
ROW_WITH_COLUMN = ((1, 2, 0, 3, 4), (3, 1, 2, 4, 0))
TWO_BY_TWO = ((1, 0, 3, 2), (2, 3, 0, 1))
# Six squares, with 36 floors to which words lead, with 96 and with 120.
OF_36_ROWS = ((5, 4, 2, 3, 0, 1), (3, 4, 0, 5, 1, 2))
OF_96_ROWS = ((5, 4, 3, 1, 2, 0), (1, 5, 3, 2, 4, 0))
OF_120_ROWS = ((5, 4, 3, 1, 0, 2), (4, 3, 1, 2, 0, 5))
# Five and six squares; none of the floors to which words lead is brought back by a turn by half.
OF_12_ROWS = ((0, 2, 1, 4, 3), (1, 2, 3, 0, 4))
OF_20_ROWS = ((0, 1, 3, 2, 5, 4), (1, 2, 3, 4, 0, 5))
OF_32_ROWS = ((0, 2, 1, 4, 3, 5), (1, 0, 3, 4, 5, 2))
# A row of three, two rows of two on its first two squares, and a square on the upper one's first.
STAIRS = ((1, 2, 0, 4, 3, 6, 5, 7), (3, 4, 2, 5, 6, 7, 1, 0))
# Rows of one, three and four squares.
UNLIKE_ROWS = ((0, 2, 3, 1, 5, 6, 7, 4), (1, 4, 2, 3, 0, 5, 6, 7))


def all_turnings(count):
    return list(permutations(range(count)))


def is_sewn(right, up):
    reached = {0}
    while True:
        more = reached | {right[s] for s in reached} | {up[s] for s in reached}
        if more == reached:
            return len(reached) == len(right)
        reached = more


def all_floors(count):
    turnings = all_turnings(count)
    return [(right, up) for right in turnings for up in turnings if is_sewn(right, up)]


def small_floors():
    return [floor for count in (1, 2, 3, 4) for floor in all_floors(count)]


def turning_of_rank(count, rank):
    left = list(range(count))
    turning = []
    for size in range(count, 0, -1):
        turning.append(left.pop(rank // factorial(size - 1) % size))
    return tuple(turning)


def spread_floors(count, tries):
    """Floors of so many squares, spread over all there are; the same ones each time."""
    pairs = [(turning_of_rank(count, k * 7919 + 13), turning_of_rank(count, k * 104729 + 7)) for k in range(tries)]
    return [(right, up) for right, up in pairs if is_sewn(right, up)]


def is_called(floor, p, other):
    """Whether the other is the floor with each square s called p's number at s, neighbour by neighbour."""
    squares = range(len(floor[0]))
    return all(other[way][p[s]] == p[floor[way][s]] for way in (0, 1) for s in squares)


def round_by_words(floor, s):
    """From a square right, up, left, down, as the document tells it."""
    right, up = floor
    s = up[right[s]]
    return up.index(right.index(s))


def rows_by_words(floor):
    """A dict of each square's row, as ring."""
    rows = {}
    for first in range(len(floor[0])):
        if first not in rows:
            ring = [first]
            while floor[0][ring[-1]] != first:
                ring.append(floor[0][ring[-1]])
            for s in ring:
                rows[s] = tuple(ring)
    return rows


def is_smooth_by_words(floor, row):
    return all(round_by_words(floor, s) == s for s in row)


def bands_by_words(floor):
    """A second way to the bands: rows and upper rows are brought together till nothing changes, and then ordered."""
    rows = rows_by_words(floor)
    upper = {row: rows[floor[1][row[0]]] for row in rows.values() if is_smooth_by_words(floor, row)}
    together = [{row} for row in set(rows.values())]
    for row, above in upper.items():
        one = [part for part in together if row in part or above in part]
        together = [part for part in together if part not in one] + [set().union(*one)]
    bands = []
    for part in together:
        lowest = [row for row in part if row not in upper.values()] or [rows[0]]
        ordered = lowest[:1]
        while len(ordered) < len(part):
            ordered.append(upper[ordered[-1]])
        bands.append((len(ordered[0]), len(ordered), tuple(ordered)))
    return tuple(sorted(bands))


def numbered_by_words(floor, s):
    """A second way to number a floor, word by word as the document tells it."""
    called = {s: 0}
    by_number = {0: s}
    for number in range(len(floor[0])):
        for way in (0, 1):
            reached = floor[way][by_number[number]]
            if reached not in called:
                by_number[len(called)] = reached
                called[reached] = len(called)
    rows = []
    for way in (0, 1):
        rows.append(tuple(called[floor[way][by_number[number]]] for number in range(len(called))))
    return tuple(rows)


def form_by_words(floor):
    return min(numbered_by_words(floor, s) for s in range(len(floor[0])))


def step_by_words(floor, letter, k):
    """A second way to lead a floor by one step, square by square as the document tells it."""
    right, up = floor
    squares = range(len(right))
    if letter == "t":
        for _ in range(k):
            right, up = tuple(up.index(s) for s in squares), right
        return (right, up)
    sheared = []
    for s in squares:
        for _ in range(abs(k)):
            s = right.index(s) if k > 0 else right[s]
        sheared.append(up[s])
    return (right, tuple(sheared))


def led_by_words(floor, word):
    for letter, k in word:
        floor = step_by_words(floor, letter, k)
    return floor


def walked_by_words(floor, s, steps):
    """The squares of a ride, step by step as the document tells it."""
    right, up = floor
    squares = [s]
    for step in steps:
        s = {"r": right[s], "l": right.index(s), "u": up[s], "d": up.index(s)}[step]
        squares.append(s)
    return squares


def rim_by_words(floor, s):
    """A square's rim, side by side as the document tells it."""
    right, up = floor
    count = len(right)
    rim = [0] * (2 * count)
    for side, number in ((s, 1), (count + right[s], 1), (up[s], -1), (count + s, -1)):
        rim[side] += number
    return tuple(rim)


def sum_of_rims(floor, weights):
    """The rims of all squares, each so many times, together."""
    rims = [[weight * number for number in rim_by_words(floor, s)] for s, weight in enumerate(weights)]
    return tuple(sum(numbers) for numbers in zip(*rims))


def crossed_by_words(floor, s, steps, seam):
    """How often a ride crosses a seam, step by step as the document tells it."""
    right, up = floor
    count = len(right)
    total = 0
    for square, step in zip(walked_by_words(floor, s, steps), steps):
        if step == "r":
            total += seam[count + right[square]]
        elif step == "l":
            total -= seam[count + square]
        elif step == "u":
            total -= seam[up[square]]
        else:
            total += seam[square]
    return total


def corner_names(floor):
    """A dict of each square's four corners, ("ll", s), ("lr", s), ("ul", s), ("ur", s), to one name for each corner."""
    right, up = floor
    names = {(at, s): (at, s) for at in ("ll", "lr", "ul", "ur") for s in range(len(right))}
    for s in range(len(right)):
        sewn = (("lr", "ll", right), ("ur", "ul", right), ("ul", "ll", up), ("ur", "lr", up))
        for at, other, way in sewn:
            one, gone = names[at, s], names[other, way[s]]
            names = {corner: one if name == gone else name for corner, name in names.items()}
    return names


def is_closed_by_words(floor, seam):
    """A second look at a seam, corner by corner, the corners sewn together along sides."""
    names = corner_names(floor)
    count = len(floor[0])
    left_over = {name: 0 for name in names.values()}
    for s in range(count):
        for begin, end, number in (("ll", "lr", seam[s]), ("ll", "ul", seam[count + s])):
            left_over[names[begin, s]] -= number
            left_over[names[end, s]] += number
    return not any(left_over.values())


def spread_numbers(count, bound, rank):
    """So many numbers to the bound either way, the same ones each time."""
    return [(rank * 7919 + (k + 1) * (k + rank + 3) * 104729) % (2 * bound + 1) - bound for k in range(count)]


def closed_seams(floor, bound=5):
    """Closed seams: noughts, rows' lower sides, columns' left sides, and these and rims some times together."""
    count = len(floor[0])
    seams = [(0,) * (2 * count)]
    rows = sorted(set(rows_by_words(floor).values()))
    columns = sorted(set(rows_by_words((floor[1], floor[0])).values()))
    rings = [[s for s in row] for row in rows] + [[count + s for s in column] for column in columns]
    seams += [tuple(int(side in ring) for side in range(2 * count)) for ring in rings]
    for rank in range(3):
        numbers = spread_numbers(len(rings), bound, rank)
        rims = sum_of_rims(floor, spread_numbers(count, bound, rank + 7))
        whole = [rims[side] + sum(k for k, ring in zip(numbers, rings) if side in ring) for side in range(2 * count)]
        seams.append(tuple(whole))
    return seams


def way_back(floor, s):
    """Steps that lead from square s to square 0."""
    ways = {s: ""}
    left = [s]
    while 0 not in ways:
        square = left.pop(0)
        for step in "rlud":
            reached = walked_by_words(floor, square, step)[-1]
            if reached not in ways:
                ways[reached] = ways[square] + step
                left.append(reached)
    return ways[0]


def closed_rides(floor):
    """Closed rides from square 0."""
    rides = ["", "r" * len(rows_by_words(floor)[0]), "u" * len(rows_by_words((floor[1], floor[0]))[0])]
    for steps in ("ru", "rrul", "uldd", "ldruurdl", "drdrululuurr", "rruuddlllurd"):
        rides.append(steps + way_back(floor, walked_by_words(floor, 0, steps)[-1]))
    return rides


def all_led(floor):
    """The forms of all floors to which words lead the floor."""
    found = {form_by_words(floor)}
    left = list(found)
    while left:
        one = left.pop()
        for letter in "st":
            other = form_by_words(step_by_words(one, letter, 1))
            if other not in found:
                found.add(other)
                left.append(other)
    return found


def table_by_words(word):
    """A second way to a word's table: one quarter turn at a time."""
    a, b, c, d = 1, 0, 0, 1
    for letter, k in word:
        if letter == "s":
            a, b = a + k * c, b + k * d
        for _ in range(k if letter == "t" else 0):
            a, b, c, d = -c, -d, a, b
    return (a, b, c, d)


def word_by_other_division(table):
    """A second way from a table to a word: divided with rests of the sign of what is divided; it needn't be plain."""
    a, b, c, d = table
    steps = []
    while c:
        k = abs(a) // abs(c) * (1 if a * c > 0 else -1)
        a, b, c, d = c, d, k * c - a, k * d - b
        steps = [("t", 1)] + ([("s", k)] if k else []) + steps
    steps = ([("s", b * a)] if b else []) + steps
    return tuple([("t", 2)] * (a < 0) + steps)


def times_by_words(one, other):
    (a, b, c, d), (e, f, g, h) = one, other
    return (a * e + b * g, a * f + b * h, c * e + d * g, c * f + d * h)


def undone_by_words(table):
    a, b, c, d = table
    return (d, -b, -c, a)


def small_word(table):
    """Steps that lead floors of at most six squares as the table does: 60 shears bring such rows back."""
    word = word_by_other_division(table)
    return [(letter, number % 60 if letter == "s" else number) for letter, number in word]


def brings_back(floor, table):
    """A second look at the group of a floor of at most six squares."""
    return form_by_words(led_by_words(floor, small_word(table))) == form_by_words(floor)


def slopes_to(bound):
    """All slopes of numbers to the bound either way."""
    pairs = [(a, c) for a in range(-bound, bound + 1) for c in range(1, bound + 1) if gcd(a, c) == 1]
    return [(1, 0)] + pairs


def is_word(thing):
    """Whether a thing is of the form of words."""
    if type(thing) is not tuple:
        return False
    for step in thing:
        if type(step) is not tuple or len(step) != 2 or type(step[0]) is not str or type(step[1]) is not int:
            return False
        if not (step[0] == "s" and step[1] != 0 or step[0] == "t" and step[1] in (1, 2, 3)):
            return False
    return True


def is_plain_word(thing):
    return is_word(thing) and all(one[0] != other[0] for one, other in zip(thing, thing[1:]))


def is_told_kind(thing):
    """Whether a thing is of tuples, texts, whole numbers, truths and None alone."""
    if type(thing) is tuple:
        return all(is_told_kind(part) for part in thing)
    return thing is None or type(thing) in (str, int, bool)
