"""Of a seam the weights by which it is a border, or a closed ride that crosses it [29]."""

from shearfloor.floors import neighbour, squares_from
from shearfloor.seams import crossed

BACK = {"r": "l", "u": "d"}


def border_or_ride(floor, seam):
    """("border", weights), or ("ride", steps) of a closed ride from square 0 that crosses the seam."""
    rides = rides_to_squares(floor)
    # The rims so many times are crossed at each side as the seam is, where no round over that side crosses the seam.
    for s in range(len(floor[0])):
        for step in "ru":
            steps = rides[s] + step + gone_back(rides[neighbour(floor, s, step)])
            if crossed(floor, 0, steps, seam) != 0:
                return ("ride", steps)
    return ("border", tuple([-crossed(floor, 0, rides[s], seam) for s in range(len(floor[0]))]))


def rides_to_squares(floor):
    """A dict of steps r and u that lead from square 0 to each square, each of fewer steps than there are squares."""
    rides = {0: ""}
    for s in squares_from(floor, 0):
        for step in "ru":
            reached = neighbour(floor, s, step)
            if reached not in rides:
                rides[reached] = rides[s] + step
    return rides


def gone_back(steps):
    """The steps back of a ride that goes by r and u alone."""
    return "".join([BACK[step] for step in reversed(steps)])
