"""Floors called anew, alike floors, and the form of a floor [8, 9]."""

from shearfloor.floors import squares_from
from shearfloor.turnings import followed, turned_back


def called_anew(floor, p):
    """The floor with each square s called by p's number at s."""
    back = turned_back(p)
    right = followed(followed(back, floor[0]), p)
    up = followed(followed(back, floor[1]), p)
    return (right, up)


def numbering_from(floor, s):
    """The turning by which the floor is called anew to be numbered from s."""
    return turned_back(squares_from(floor, s))


def numbered_from(floor, s):
    """The floor numbered from square s."""
    return called_anew(floor, numbering_from(floor, s))


def form_of(floor):
    """The first of the floors numbered from each square."""
    return min([numbered_from(floor, s) for s in range(len(floor[0]))])


def callings(one, other):
    """The list of all turnings by which the one floor, called anew, is the other, sorted."""
    told = []
    numbered = numbered_from(one, 0)
    numbering = numbering_from(one, 0)
    # A calling leads square 0 to some square s, and the numberings from both then go alike.
    for s in range(len(other[0])):
        if numbered_from(other, s) == numbered:
            told.append(followed(numbering, squares_from(other, s)))
    return sorted(told)
