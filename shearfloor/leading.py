"""Floors sheared, turned by quarters, led by words and by tables [14]."""

from shearfloor.anew import form_of
from shearfloor.dividing import word_of
from shearfloor.turnings import followed, often, turned_back


def sheared(floor, k):
    """The floor sheared k times."""
    return (floor[0], followed(often(floor[0], -k), floor[1]))


def quartered(floor):
    """The floor turned by a quarter."""
    return (turned_back(floor[1]), floor[0])


def led_by(floor, word):
    """The floor led by the word, step by step."""
    led = floor
    for step in word:
        led = led_by_step(led, step)
    return led


def led_by_step(floor, step):
    """The floor led by one step."""
    if step[0] == "s":
        return sheared(floor, step[1])
    led = floor
    for turn in range(step[1]):
        led = quartered(led)
    return led


def led_by_table(floor, table):
    """The form of the floor led by any word of the table."""
    return form_of(led_by(floor, word_of(table)))
