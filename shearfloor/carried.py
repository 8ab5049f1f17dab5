"""Seams and rides carried back over a word, from the floor led by it to the floor [30]."""

from shearfloor.floors import step_turnings
from shearfloor.leading import led_by, quartered

OVER_QUARTER = {"r": "d", "l": "u", "u": "r", "d": "l"}


def seam_carried(floor, word, seam):
    """The seam of the floor led by the word, carried back to the floor."""
    carried = seam
    for place in range(len(word) - 1, -1, -1):
        ahead = led_by(floor, word[:place])
        if word[place][0] == "s":
            carried = seam_over_shears(ahead, word[place][1], carried)
        else:
            carried = seam_over_quarters(ahead, word[place][1], carried)
    return carried


def seam_over_shears(floor, k, seam):
    """The seam carried over ("s", k), back to the floor ahead of it."""
    turnings = step_turnings(floor)
    count = len(floor[0])
    lower = list(seam[:count])
    left = [0] * count
    # Right neighbours stay in each shear, so that all are gone at once, square by square.
    for s in range(count):
        number = seam[count + s]
        reached = s
        for shear in range(k):
            reached = turnings["l"][reached]
            lower[reached] = lower[reached] - number
        for shear in range(-k):
            lower[reached] = lower[reached] + number
            reached = turnings["r"][reached]
        left[reached] = number
    return tuple(lower + left)


def seam_over_quarters(floor, k, seam):
    """The seam carried over ("t", k), back to the floor ahead of it."""
    if k == 0:
        return seam
    later = seam_over_quarters(quartered(floor), k - 1, seam)
    count = len(floor[0])
    lower = [0] * count
    for s in range(count):
        lower[floor[1][s]] = later[count + s]
    return tuple(lower + [-number for number in later[:count]])


def ride_carried(word, steps):
    """The steps of a ride on the floor led by the word, carried back to the floor."""
    carried = steps
    for step in reversed(word):
        if step[0] == "s":
            carried = ride_over_shears(step[1], carried)
        else:
            carried = ride_over_quarters(step[1], carried)
    return carried


def ride_over_shears(k, steps):
    """The steps carried over ("s", k)."""
    # A text so often below 0 is none, so that only one of the two has signs.
    to_left = "l" * k + "r" * -k
    to_right = "r" * k + "l" * -k
    instead = {"r": "r", "l": "l", "u": to_left + "u", "d": "d" + to_right}
    return "".join([instead[step] for step in steps])


def ride_over_quarters(k, steps):
    """The steps carried over ("t", k)."""
    carried = steps
    for turn in range(k):
        carried = "".join([OVER_QUARTER[step] for step in carried])
    return carried
