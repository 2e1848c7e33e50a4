"""What several test files need."""

from itertools import permutations, product
from random import Random
from unittest import TestCase

from turnkin.errors import BadFew, BadStep, HouseError

SIZES = range(1, 9)


class Unlike:
    """A thing that fails in whatever it is asked."""

    __hash__ = None

    def __eq__(self, other):
        raise RuntimeError("asked whether it is equal")

    def __lt__(self, other):
        raise RuntimeError("asked whether it is less")

    def __len__(self):
        raise RuntimeError("asked how long it is")

    def __bool__(self):
        raise RuntimeError("asked whether it is true")

    def __index__(self):
        raise RuntimeError("asked for a number")

    def __iter__(self):
        raise RuntimeError("asked for its items")

    def __repr__(self):
        raise RuntimeError("asked how it looks")


NO_SIZES = [
    0, -1, -8, 9, 10, 10 ** 60, True, False, None, "", "3", b"3", 3.0, 2.5, 1j,
    (), (3,), [], [3], {}, {3}, range(3), int, len, object(), Unlike(),
]

NO_TURNINGS = [
    (), (0, 1, 2, 3, 4, 5, 6, 7, 8), tuple(range(9, -1, -1)), tuple(range(1000)),
    (1,), (-1,), (0, 0), (1, 1), (0, 2), (1, 2), (0, -1), (-1, 0), (0, 1, 1), (0, 1, 3),
    (2, 2, 0, 1), (0, 1, 2, 10 ** 60), (0, 1, 2, -10 ** 60),
    (False,), (True, 0), (0, True), (False, 1), (1, False), (2, True, 0), (2, 1, False),
    ("0",), ("0", "1"), (0, "1"), (0, None), (None,), (None, None), (0.0,), (0, 1.0), (1.0, 0.0),
    ((0,),), ((0, 1),), ([0], [1]), (0, []), (0, {}), (0, {1}), (Unlike(),), (0, Unlike()),
    [], [0], [0, 1], [1, 0], [0, 1, 2, 3, 4, 5, 6, 7], {}, {0: 0}, {0: 1, 1: 0}, {0}, {0, 1},
    frozenset([0, 1]), range(1), range(2), iter((0, 1)), "", "0", "01", "(0 1)", "()", b"\x00", b"\x01\x00",
    None, True, False, 0, 1, 2, 10 ** 60, 0.0, 1j, tuple, int, len, object(), Unlike(),
]

# What is neither a list nor a tuple; None stands apart, as a house takes it for none of the few.
NO_ROWS = [
    True, False, 0, 1, 40, 10 ** 60, 0.5, 1j, "", "stay", "()", b"", b"few", {}, {0: (0,)}, {(0,)}, set(),
    frozenset(), range(0), range(2), iter([]), zip(), (step for step in ()), list, tuple, len, object(), Unlike(),
]

NO_NUMBERS = [
    True, False, None, "", "0", "2", b"2", 0.0, 2.0, 0.5, 1j, (), (2,), [], [0], {}, {2}, range(1), int, len,
    object(), Unlike(),
]


def all_turnings(size):
    """Every turning of the size, in order."""
    return list(permutations(range(size)))


def some_turnings(size):
    """All turnings of a small size, and of a greater one the same few hundred each time."""
    if size <= 5:
        return all_turnings(size)
    chance = Random(size)
    told = [tuple(range(size)), tuple(range(size - 1, -1, -1)), tuple([*range(1, size), 0])]
    for _ in range(300):
        places = list(range(size))
        chance.shuffle(places)
        told.append(tuple(places))
    return told


def no_turnings(size):
    """What is no turning of the size, turnings of other sizes among it."""
    return NO_TURNINGS + [tuple(range(other)) for other in SIZES if other != size]


def no_places(size):
    """What is no place of the size."""
    return NO_NUMBERS + [-1, -size, -size - 1, size, size + 1, 40, 10 ** 60, -10 ** 60]


def random_few(chance, size, many):
    """So many turnings of the size."""
    return [tuple(chance.sample(range(size), size)) for _ in range(many)]


def swaps(size):
    """Those that exchange two neighbours: all turnings of the size come of them."""
    told = []
    for place in range(size - 1):
        turning = list(range(size))
        turning[place], turning[place + 1] = place + 1, place
        told.append(tuple(turning))
    return told


def lists_of_few(size):
    """Lists of a few turnings, from none to forty: all single ones of a small size among them."""
    chance = Random(100 + size)
    stay = tuple(range(size))
    ring = (*range(1, size), 0)
    told = [[], [stay], [stay, stay], [ring], [ring[::-1]], swaps(size), swaps(size)[::-1], swaps(size)[1:],
            swaps(size)[::2], [ring, *swaps(size)[:1]]]
    if size <= 4:
        told.extend([turning] for turning in all_turnings(size))
    if size <= 3:
        told.extend([one, other] for one in all_turnings(size) for other in all_turnings(size))
    for many in (1, 1, 1, 2, 2, 2, 3, 5, 17, 40):
        told.append(random_few(chance, size, many))
    # Few that leave some places where they are, so that not all turnings come of them.
    for many in (1, 2, 3, 40):
        low = size // 2
        told.append([(*range(low), *[low + place for place in turning])
                     for turning in random_few(chance, size - low, many)])
        told.append([(*turning, *range(low, size)) for turning in random_few(chance, low, many)])
    return told


def all_that_come(size, few):
    """All that come of the few, in order, gone through without the program.

    Done often enough each turning comes to its back, so the backs come of themselves.
    """
    stay = tuple(range(size))
    found = {stay}
    waiting = [stay]
    while waiting:
        turning = waiting.pop()
        for step in few:
            led = tuple([step[place] for place in turning])
            if led not in found:
                found.add(led)
                waiting.append(led)
    return sorted(found)


def promised(house):
    """What a house answers that is promised to be alike for houses of the same few."""
    return house.told(), house.levels(), house.many(), house.rounds(), house.turning_at(house.many() - 1)


def answers(house):
    """What one house answers, by which it can be told whether anything in it was changed."""
    places = range(len(house.levels()))
    last = house.turning_at(house.many() - 1)
    return promised(house), [house.kept(level, place) for level in places for place in places], house.shown(last)


def short_tuples(places, longest):
    """Every tuple of these places that is no longer than that."""
    return [row for length in range(longest + 1) for row in product(places, repeat=length)]


class Refusing(TestCase):
    """A test that asks for refusals."""

    def assert_refused(self, kind, asked, *handed):
        """It is refused with this error itself, none above it and none below it."""
        with self.assertRaises(HouseError) as caught:
            asked(*handed)
        self.assertIs(caught.exception.__class__, kind)
        return caught.exception

    def assert_bad_few(self, place, asked, *handed):
        """The few are refused, with this place as the first that is none."""
        self.assertEqual(vars(self.assert_refused(BadFew, asked, *handed)), {"place": place})

    def assert_bad_step(self, place, asked, *handed):
        """The steps are refused, with this place as the first that is none."""
        self.assertEqual(vars(self.assert_refused(BadStep, asked, *handed)), {"place": place})

    def assert_wrong_few_are_refused(self, size, asked):
        """Wrong few of the size are refused wherever they stand, before all that stands behind."""
        stay = tuple(range(size))
        for thing in NO_ROWS:
            self.assert_bad_few(0, asked, thing)
        for thing in no_turnings(size):
            for place in (0, 1, 39):
                self.assert_bad_few(place, asked, [stay] * place + [thing])
                self.assert_bad_few(place, asked, (*[stay] * place, thing, None, stay))
        for many in (41, 42, 1000):
            self.assert_bad_few(40, asked, [stay] * many)
            self.assert_bad_few(40, asked, (stay,) * many)
        self.assert_bad_few(40, asked, [stay] * 40 + [None])
        self.assert_bad_few(40, asked, [stay] * 41 + [None])
        self.assert_bad_few(39, asked, [stay] * 39 + [None] + [stay] * 5)
