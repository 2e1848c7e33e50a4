"""What is a whole number, a size and a place: asked by the other files."""

from turnkin.errors import BadPlace, BadSize

MOST_PLACES = 8


def is_whole(thing):
    """Whether the thing is a whole number; True and False are none."""
    # isinstance would let True and False in, and would run code of a strange thing's own.
    return type(thing) == int


def is_size(thing):
    """Whether the thing is a size."""
    return is_whole(thing) and 1 <= thing <= MOST_PLACES


def check_size(size):
    """Refuse what is no size."""
    if not is_size(size):
        raise BadSize("a size is a whole number from 1 to 8")


def check_place(size, place):
    """Refuse what is no place of the size."""
    if not is_whole(place) or not 0 <= place < size:
        raise BadPlace("a place is a whole number from 0 on, below the size")
