"""Rows, smooth rows and bands [16]."""

from shearfloor.corners import round_corners
from shearfloor.turnings import ring_from, rings_of


def is_smooth(floor, ring):
    """Whether the row is smooth: round the corner each of its squares is led back to itself at once."""
    led = round_corners(floor)
    return all([led[s] == s for s in ring])


def upper_row(floor, row):
    """The upper row of a smooth row."""
    return ring_from(floor[0], min([floor[1][s] for s in row]))


def band_from(floor, lowest):
    """The band (width, height, rows) from its lowest row on."""
    rows = [lowest]
    while is_smooth(floor, rows[-1]):
        upper = upper_row(floor, rows[-1])
        if upper == lowest:
            break
        rows.append(upper)
    return (len(lowest), len(rows), tuple(rows))


def bands_of(floor):
    """All bands, sorted."""
    rows = rings_of(floor[0])
    upper_rows = [upper_row(floor, row) for row in rows if is_smooth(floor, row)]
    lowest_rows = [row for row in rows if row not in upper_rows]
    # Where all rows are smooth none is the lowest; the first one is that of square 0.
    if len(lowest_rows) == 0:
        lowest_rows = [rows[0]]
    return tuple(sorted([band_from(floor, row) for row in lowest_rows]))
