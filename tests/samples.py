"""Turnings, floors and looks at what is told, for all tests; made without the program's own functions."""

from itertools import permutations

ONE_SQUARE = ((0,), (0,))
# Three squares in an L: 0 and 1 side by side, 2 above 0.
CORNERED = ((1, 0, 2), (2, 1, 0))
# Four squares: right a ring of three and one by itself, up of two rings of two.
FOUR = ((1, 2, 0, 3), (3, 2, 1, 0))
LONG_ROW = tuple(range(1, 20)) + (0,)
TWENTY_SQUARES = (LONG_ROW, tuple(reversed(range(20))))


def all_turnings(count):
    return list(permutations(range(count)))


def is_sewn(right, up):
    reached = {0}
    while True:
        more = reached | {right[s] for s in reached} | {up[s] for s in reached}
        if more == reached:
            return len(reached) == len(right)
        reached = more


def all_floors(count):
    turnings = all_turnings(count)
    return [(right, up) for right in turnings for up in turnings if is_sewn(right, up)]


def small_floors():
    return [floor for count in (1, 2, 3, 4) for floor in all_floors(count)]


def is_told_kind(thing):
    """Whether a thing is of tuples, texts, whole numbers, truths and None alone."""
    if type(thing) is tuple:
        return all(is_told_kind(part) for part in thing)
    return thing is None or type(thing) in (str, int, bool)
