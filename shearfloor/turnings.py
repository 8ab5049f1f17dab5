"""Turnings: tuples of n whole numbers, each from 0 to n - 1 once [4]."""


def is_turning(thing):
    """Whether a tuple of whole numbers is a turning."""
    return len(thing) > 0 and sorted(thing) == list(range(len(thing)))


def followed(one, other):
    """One turning and then the other."""
    return tuple([other[number] for number in one])


def turned_back(turning):
    """The turning that leads each number back."""
    back = [0] * len(turning)
    for number, led in enumerate(turning):
        back[led] = number
    return tuple(back)


def often(turning, k):
    """The turning k times one behind the other, turned back where k is below 0."""
    led = [0] * len(turning)
    # Along a ring k places are gone at once, so that no k takes long.
    for ring in rings_of(turning):
        for place, number in enumerate(ring):
            led[number] = ring[(place + k) % len(ring)]
    return tuple(led)


def ring_from(turning, first):
    """The numbers to which the turning leads from the first one, till it is back there."""
    ring = [first]
    reached = turning[first]
    while reached != first:
        ring.append(reached)
        reached = turning[reached]
    return tuple(ring)


def rings_of(turning):
    """All rings of the turning, each begun at its least number, sorted."""
    rings = []
    seen = {}
    # First numbers rise, so a number not yet seen is its ring's least, and the rings come sorted.
    for first in range(len(turning)):
        if first not in seen:
            ring = ring_from(turning, first)
            rings.append(ring)
            for number in ring:
                seen[number] = True
    return tuple(rings)
