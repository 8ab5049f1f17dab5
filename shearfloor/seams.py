"""Seams on the sides of squares, rims, and how often rides cross seams [28, 29]."""

from shearfloor.corners import corners_of
from shearfloor.floors import step_turnings
from shearfloor.rides import ridden

# What a step over a side counts, and what the rim of the square that it leaves has there.
SIGNS = {"r": 1, "l": -1, "u": -1, "d": 1}


def side_crossed(floor, s, step):
    """The place in a seam of the side over which the step leads from square s."""
    if step == "r":
        return len(floor[0]) + floor[0][s]
    if step == "l":
        return len(floor[0]) + s
    if step == "u":
        return floor[1][s]
    return s


def rim_of(floor, s):
    """The rim of square s."""
    rim = [0] * (2 * len(floor[0]))
    for step in SIGNS:
        place = side_crossed(floor, s, step)
        # One side may be two of the four, so that both numbers come together there.
        rim[place] = rim[place] + SIGNS[step]
    return tuple(rim)


def crossed(floor, s, steps, seam):
    """How often the ride from s crosses the seam."""
    total = 0
    for square, step in zip(ridden(floor, s, steps), steps):
        total = total + SIGNS[step] * seam[side_crossed(floor, square, step)]
    return total


def corner_numbers(floor):
    """For each square the number of the corner at its upper right."""
    numbers = [0] * len(floor[0])
    for number, ring in enumerate(corners_of(floor)):
        for s in ring:
            numbers[s] = number
    return tuple(numbers)


def is_closed(floor, seam):
    """Whether at each corner as much of the seam ends as begins."""
    turnings = step_turnings(floor)
    upper_right = corner_numbers(floor)
    left_over = [0] * len(floor[0])
    for s in range(len(floor[0])):
        lower = turnings["d"][s]
        begin = upper_right[turnings["l"][lower]]
        lower_end = upper_right[lower]
        left_end = upper_right[turnings["l"][s]]
        left_over[begin] = left_over[begin] - seam[s] - seam[len(floor[0]) + s]
        left_over[lower_end] = left_over[lower_end] + seam[s]
        left_over[left_end] = left_over[left_end] + seam[len(floor[0]) + s]
    return all([number == 0 for number in left_over])
