"""A few turnings: what they are, asked by the files that are handed some."""

from turnkin.errors import BadFew
from turnkin.turnings import is_turning

MOST_FEW = 40


def check_few(size, few):
    """Refuse what is no few turnings of the size, with the place of the first that is none."""
    if type(few) not in (list, tuple):
        raise BadFew(0)
    for place, turning in enumerate(few):
        if place >= MOST_FEW or not is_turning(turning, size):
            raise BadFew(place)
