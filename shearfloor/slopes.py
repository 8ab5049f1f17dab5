"""Slopes, their tables, lines along them, and bands along them [20 to 22]."""

from shearfloor.bands import bands_of
from shearfloor.dividing import level_steps
from shearfloor.errors import NoSlope
from shearfloor.floors import step_turnings
from shearfloor.leading import led_by_table
from shearfloor.rides import ridden
from shearfloor.tables import led_pair
from shearfloor.turnings import followed, ring_from
from shearfloor.words import table_of


def slope_table(slope):
    """A table that leads the slope to (1, 0), or NoSlope of a pair that is none."""
    steps = level_steps(slope)
    led = led_pair(table_of(steps), slope)
    # What is left of both numbers is their greatest common divisor, above or below 0.
    if slope[1] < 0 or abs(led[0]) != 1 or slope == (-1, 0):
        raise NoSlope()
    if led[0] == -1:
        steps = steps + (("t", 2),)
    return table_of(steps)


def slope_steps(slope):
    """The steps by which a line of the slope goes once."""
    width = abs(slope[0])
    height = slope[1]
    level_step = "l" if slope[0] < 0 else "r"
    steps = []
    x = 0
    y = 0
    while x < width or y < height:
        if (y + 1) * width <= height * x and y < height:
            steps.append("u")
            y = y + 1
        else:
            steps.append(level_step)
            x = x + 1
    return "".join(steps)


def gone_once(floor, slope):
    """The turning that leads each square to that to which the slope's steps lead from there."""
    turnings = step_turnings(floor)
    gone = tuple(range(len(floor[0])))
    for step in slope_steps(slope):
        gone = followed(gone, turnings[step])
    return gone


def line_from(floor, slope, s):
    """The squares ahead of each step of the slope's line from s, till all steps end at s."""
    rounds = len(ring_from(gone_once(floor, slope), s))
    return ridden(floor, s, slope_steps(slope) * rounds)[:-1]


def bands_along(floor, slope):
    """The bands along the slope, a sorted tuple of (width, height)."""
    bands = bands_of(led_by_table(floor, slope_table(slope)))
    return tuple([(band[0], band[1]) for band in bands])
