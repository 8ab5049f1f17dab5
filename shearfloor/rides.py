"""Rides from square to square [27]."""

from shearfloor.floors import step_turnings


def ridden(floor, s, steps):
    """The squares of the ride from s, from the first to the last."""
    turnings = step_turnings(floor)
    squares = [s]
    for step in steps:
        squares.append(turnings[step][squares[-1]])
    return tuple(squares)
