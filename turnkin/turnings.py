"""Turnings: tuples that lead each place to the number that stands there."""

from turnkin.checks import check_size, is_size, is_whole
from turnkin.errors import BadTurning


def is_turning(thing, size):
    """Whether the thing, whatever it is, is a turning of the size."""
    check_size(size)
    if type(thing) != tuple or len(thing) != size:
        return False
    # Only whole numbers can be sorted and compared without a fault.
    if not all([is_whole(place) for place in thing]):
        return False
    return sorted(thing) == list(range(size))


def check_turning(thing):
    """Refuse what is no turning of any size."""
    if type(thing) != tuple or not is_size(len(thing)) or not is_turning(thing, len(thing)):
        raise BadTurning("this is no turning of any size")


def staying(size):
    """The turning of the size that leads each place to itself."""
    check_size(size)
    return tuple(range(size))


def done_as_one(one, other):
    """As behind, of what is known to be two turnings of one size."""
    return tuple([other[place] for place in one])


def behind(one, other):
    """The one turning and then the other one, done as one."""
    check_turning(one)
    check_turning(other)
    if len(one) != len(other):
        raise BadTurning("these turnings are of unlike sizes")
    return done_as_one(one, other)


def back(one):
    """The turning that leads each place to where it came from."""
    check_turning(one)
    came_from = [0] * len(one)
    for place, target in enumerate(one):
        came_from[target] = place
    return tuple(came_from)
