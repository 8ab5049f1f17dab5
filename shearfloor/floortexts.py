"""A floor's text, written and read [7]."""

from shearfloor.errors import NoFloor, NoText
from shearfloor.floors import MOST_SQUARES, look_floor
from shearfloor.turnings import is_turning


def show_floor(floor):
    """The floor's text."""
    return show_row("right", floor[0]) + "\n" + show_row("up", floor[1])


def show_row(name, numbers):
    """The name and behind it the numbers, parted by one blank."""
    return " ".join([name] + [str(number) for number in numbers])


def read_floor(text):
    """The floor of the text, else NoText."""
    rows = text.split("\n")
    right = read_row(rows[0], "right", 0)
    if not is_turning(right) or len(right) > MOST_SQUARES:
        raise NoText(0)
    if len(rows) < 2:
        raise NoText(1)
    floor = (right, read_row(rows[1], "up", 1))
    try:
        look_floor(floor)
    except NoFloor:
        raise NoText(1) from None
    if len(rows) > 2:
        raise NoText(2)
    return floor


def read_row(row, name, place):
    """The numbers behind the name, else NoText of the row's place."""
    words = row.split(" ")
    if words[0] != name:
        raise NoText(place)
    # Each number is below their count, so only these few words can stand there.
    figures = [str(number) for number in range(len(words) - 1)]
    numbers = []
    for word in words[1:]:
        if word not in figures:
            raise NoText(place)
        numbers.append(figures.index(word))
    return tuple(numbers)
