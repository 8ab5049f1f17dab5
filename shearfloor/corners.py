"""Corners, how often one turns round them, and holes [15]."""

from shearfloor.turnings import followed, rings_of, turned_back


def round_corners(floor):
    """The turning that goes from each square round its upper right corner: right, up, left, down."""
    right = floor[0]
    up = floor[1]
    back = followed(turned_back(right), turned_back(up))
    return followed(followed(right, up), back)


def corners_of(floor):
    """The rings of squares round each corner, sorted."""
    return rings_of(round_corners(floor))


def turns_of(floor):
    """How many squares are round each corner, rising."""
    return tuple(sorted([len(ring) for ring in corners_of(floor)]))


def holes_of(floor):
    """How many holes the floor has."""
    return 1 + (len(floor[0]) - len(corners_of(floor))) // 2
