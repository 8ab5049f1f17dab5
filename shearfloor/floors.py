"""Floors: pairs (right, up) of turnings, and steps from square to square [5, 6]."""

from shearfloor.errors import NoFloor
from shearfloor.turnings import turned_back

MOST_SQUARES = 20


def step_turnings(floor):
    """For each step, one of r, l, u, d, the turning that leads each square to its neighbour there."""
    return {"r": floor[0], "l": turned_back(floor[0]), "u": floor[1], "d": turned_back(floor[1])}


def neighbour(floor, s, step):
    """The square to which a step, one of r, l, u, d, leads from square s."""
    return step_turnings(floor)[step][s]


def squares_from(floor, s):
    """All squares to which right and upper neighbours lead from s, in the order in which they come.

    For each square in turn, from s on, first its right neighbour comes, then its upper one.
    """
    squares = [s]
    place = 0
    while place < len(squares):
        for turning in floor:
            reached = turning[squares[place]]
            if reached not in squares:
                squares.append(reached)
        place = place + 1
    return tuple(squares)


def look_floor(floor):
    """True where the pair is a floor, else NoFloor."""
    right = floor[0]
    up = floor[1]
    if len(right) < 1 or len(right) > MOST_SQUARES or len(up) != len(right):
        raise NoFloor("sizes", len(right))
    look_turning(right, "right")
    look_turning(up, "up")
    look_parted(floor)
    return True


def look_turning(numbers, word):
    """Refuse, by the word, numbers that are no turning, at the first place that is amiss."""
    for place, number in enumerate(numbers):
        if number < 0 or number >= len(numbers) or number in numbers[:place]:
            raise NoFloor(word, place)


def look_parted(floor):
    """Refuse two turnings that don't lead from square 0 to all, at the least one not come to."""
    reached = squares_from(floor, 0)
    for square in range(len(floor[0])):
        if square not in reached:
            raise NoFloor("parted", square)
