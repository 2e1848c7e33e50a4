"""What several test files need."""

from itertools import permutations, product
from random import Random
from unittest import TestCase

from turnkin.errors import HouseError

SIZES = range(1, 9)


class Unlike:
    """A thing that fails in whatever it is asked."""

    __hash__ = None

    def __eq__(self, other):
        raise RuntimeError("asked whether it is equal")

    def __lt__(self, other):
        raise RuntimeError("asked whether it is less")

    def __len__(self):
        raise RuntimeError("asked how long it is")

    def __bool__(self):
        raise RuntimeError("asked whether it is true")

    def __index__(self):
        raise RuntimeError("asked for a number")

    def __iter__(self):
        raise RuntimeError("asked for its items")

    def __repr__(self):
        raise RuntimeError("asked how it looks")


NO_SIZES = [
    0, -1, -8, 9, 10, 10 ** 60, True, False, None, "", "3", b"3", 3.0, 2.5, 1j,
    (), (3,), [], [3], {}, {3}, range(3), int, len, object(), Unlike(),
]

NO_TURNINGS = [
    (), (0, 1, 2, 3, 4, 5, 6, 7, 8), tuple(range(9, -1, -1)), tuple(range(1000)),
    (1,), (-1,), (0, 0), (1, 1), (0, 2), (1, 2), (0, -1), (-1, 0), (0, 1, 1), (0, 1, 3),
    (2, 2, 0, 1), (0, 1, 2, 10 ** 60), (0, 1, 2, -10 ** 60),
    (False,), (True, 0), (0, True), (False, 1), (1, False), (2, True, 0), (2, 1, False),
    ("0",), ("0", "1"), (0, "1"), (0, None), (None,), (None, None), (0.0,), (0, 1.0), (1.0, 0.0),
    ((0,),), ((0, 1),), ([0], [1]), (0, []), (0, {}), (0, {1}), (Unlike(),), (0, Unlike()),
    [], [0], [0, 1], [1, 0], [0, 1, 2, 3, 4, 5, 6, 7], {}, {0: 0}, {0: 1, 1: 0}, {0}, {0, 1},
    frozenset([0, 1]), range(1), range(2), iter((0, 1)), "", "0", "01", "(0 1)", "()", b"\x00", b"\x01\x00",
    None, True, False, 0, 1, 2, 10 ** 60, 0.0, 1j, tuple, int, len, object(), Unlike(),
]


def all_turnings(size):
    """Every turning of the size, in order."""
    return list(permutations(range(size)))


def some_turnings(size):
    """All turnings of a small size, and of a greater one the same few hundred each time."""
    if size <= 5:
        return all_turnings(size)
    chance = Random(size)
    told = [tuple(range(size)), tuple(range(size - 1, -1, -1)), tuple([*range(1, size), 0])]
    for _ in range(300):
        places = list(range(size))
        chance.shuffle(places)
        told.append(tuple(places))
    return told


def short_tuples(places, longest):
    """Every tuple of these places that is no longer than that."""
    return [row for length in range(longest + 1) for row in product(places, repeat=length)]


class Refusing(TestCase):
    """A test that asks for refusals."""

    def assert_refused(self, kind, asked, *handed):
        """It is refused with this error itself, none above it and none below it."""
        with self.assertRaises(HouseError) as caught:
            asked(*handed)
        self.assertIs(caught.exception.__class__, kind)
        return caught.exception
