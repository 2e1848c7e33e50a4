"""Ways: how a few turnings and their backs lead places to one another."""

from collections import deque

from turnkin.checks import check_place, check_size
from turnkin.few import check_few
from turnkin.turnings import back


def _numbered(few):
    """The few and their backs, each behind its number."""
    told = []
    for place, turning in enumerate(few):
        told.append((place, turning))
        told.append((-1 - place, back(turning)))
    return told


def _ways_from(few, start):
    """A shortest way to each place to which the start is led."""
    turnings = _numbered(few)
    ways = {start: []}
    # Places wait in the order in which they were reached, so a nearer one is never reached later.
    waiting = deque([start])
    while waiting:
        place = waiting.popleft()
        for number, turning in turnings:
            target = turning[place]
            if target not in ways:
                ways[target] = ways[place] + [number]
                waiting.append(target)
    return ways


def rounds(size, few):
    """All places, those together that are led to one another."""
    check_size(size)
    check_few(size, few)
    told = []
    seen = set()
    for start in range(size):
        if start not in seen:
            ways = _ways_from(few, start)
            told.append(sorted(ways))
            for place in ways:
                seen.add(place)
    return told


def way(size, few, place, other):
    """A shortest way from the place to the other one, or None where there is none."""
    check_size(size)
    check_few(size, few)
    check_place(size, place)
    check_place(size, other)
    return _ways_from(few, place).get(other)
