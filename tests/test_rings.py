"""Points 1 and 3, with rings, is_even, order and times of the interface's turnkin/rings.py."""

import unittest

from helper import NO_NUMBERS, NO_TURNINGS, SIZES, Refusing, all_turnings, some_turnings
from turnkin.errors import BadNumber, BadTurning
from turnkin.rings import is_even, order, rings, times
from turnkin.turnings import back, behind, staying


def done_one_by_one(turning, many):
    """The turning done so often, one time after the other."""
    step = turning if many >= 0 else back(turning)
    done = staying(len(turning))
    for _ in range(abs(many)):
        done = behind(done, step)
    return done


def falls(turning):
    """How many pairs of places a turning brings out of their order: even or odd with it."""
    size = len(turning)
    return sum(1 for low in range(size) for high in range(low + 1, size) if turning[low] > turning[high])


class Rings(Refusing):
    def test_ordinary_ones(self):
        self.assertEqual(rings((3, 0, 4, 1, 2)), [[0, 3, 1], [2, 4]])
        self.assertEqual(rings((0, 2, 1)), [[1, 2]])
        self.assertEqual(rings((1, 2, 0)), [[0, 1, 2]])
        self.assertEqual(rings((2, 0, 1)), [[0, 2, 1]])
        self.assertEqual(rings((7, 6, 5, 4, 3, 2, 1, 0)), [[0, 7], [1, 6], [2, 5], [3, 4]])
        self.assertEqual(rings((0, 6, 2, 5, 4, 7, 1, 3)), [[1, 6], [3, 5, 7]])

    def test_staying_has_none(self):
        for size in SIZES:
            with self.subTest(size=size):
                self.assertEqual(rings(staying(size)), [])

    def test_they_are_lists_in_a_list(self):
        told = rings((3, 0, 4, 1, 2))
        self.assertIs(told.__class__, list)
        self.assertEqual([ring.__class__ for ring in told], [list, list])

    def test_each_ring_follows_the_turning_from_its_least_place_on(self):
        for size in SIZES:
            for turning in some_turnings(size):
                for ring in rings(turning):
                    self.assertGreaterEqual(len(ring), 2)
                    self.assertEqual(ring[0], min(ring))
                    self.assertEqual([turning[place] for place in ring], ring[1:] + ring[:1])

    def test_they_rise_by_their_least_places(self):
        for size in SIZES:
            for turning in some_turnings(size):
                least = [ring[0] for ring in rings(turning)]
                self.assertEqual(least, sorted(least))

    def test_just_the_places_that_are_led_elsewhere_stand_in_them_once(self):
        for size in SIZES:
            for turning in some_turnings(size):
                told = sorted(place for ring in rings(turning) for place in ring)
                self.assertEqual(told, [place for place in range(size) if turning[place] != place])

    def test_what_is_told_is_the_askers_own(self):
        turning = (3, 0, 4, 1, 2)
        told = rings(turning)
        told[0].append(9)
        told[1][0] = 7
        told.pop()
        self.assertEqual(rings(turning), [[0, 3, 1], [2, 4]])
        empty = rings((0, 1))
        empty.append([5])
        self.assertEqual(rings((0, 1)), [])
        self.assertEqual(turning, (3, 0, 4, 1, 2))


class Even(Refusing):
    def test_ordinary_ones(self):
        self.assertIs(is_even((0,)), True)
        self.assertIs(is_even((0, 1)), True)
        self.assertIs(is_even((1, 0)), False)
        self.assertIs(is_even((1, 2, 0)), True)
        self.assertIs(is_even((1, 2, 3, 0)), False)
        self.assertIs(is_even((1, 0, 3, 2)), True)
        self.assertIs(is_even((3, 0, 4, 1, 2)), False)
        self.assertIs(is_even((1, 2, 3, 4, 5, 6, 7, 0)), False)

    def test_it_goes_with_the_pairs_out_of_order(self):
        for size in SIZES:
            for turning in some_turnings(size):
                self.assertIs(is_even(turning), falls(turning) % 2 == 0, turning)


class Order(Refusing):
    def test_ordinary_ones(self):
        self.assertEqual(order((1, 0)), 2)
        self.assertEqual(order((1, 2, 0)), 3)
        self.assertEqual(order((1, 0, 3, 2)), 2)
        self.assertEqual(order((3, 0, 4, 1, 2)), 6)
        self.assertEqual(order((1, 0, 3, 4, 5, 2)), 4)
        self.assertEqual(order((1, 2, 0, 4, 5, 6, 7, 3)), 15)
        self.assertEqual(order((1, 2, 3, 4, 5, 6, 7, 0)), 8)

    def test_of_staying_it_is_one(self):
        for size in SIZES:
            with self.subTest(size=size):
                self.assertEqual(order(staying(size)), 1)

    def test_it_is_the_least_number_of_times_till_it_stays(self):
        for size in SIZES:
            for turning in some_turnings(size):
                # No turning of up to 8 places has a greater order than 15.
                stays = [many for many in range(1, 16) if done_one_by_one(turning, many) == staying(size)]
                self.assertEqual(order(turning), stays[0], turning)


class Times(Refusing):
    def test_nought_times_stays(self):
        for size in SIZES:
            for turning in some_turnings(size):
                self.assertEqual(times(turning, 0), staying(size))

    def test_ordinary_ones(self):
        self.assertEqual(times((1, 2, 3, 0), 1), (1, 2, 3, 0))
        self.assertEqual(times((1, 2, 3, 0), 2), (2, 3, 0, 1))
        self.assertEqual(times((1, 2, 3, 0), -1), (3, 0, 1, 2))
        self.assertEqual(times((1, 2, 3, 0), -2), (2, 3, 0, 1))
        self.assertEqual(times((3, 0, 4, 1, 2), 3), (0, 1, 4, 3, 2))
        self.assertEqual(times((3, 0, 4, 1, 2), -2), (3, 0, 2, 1, 4))

    def test_small_numbers_either_way(self):
        for size in SIZES:
            for turning in some_turnings(size)[:120]:
                for many in range(-17, 18):
                    self.assertEqual(times(turning, many), done_one_by_one(turning, many), (turning, many))

    def test_very_great_numbers_either_way(self):
        turning = (1, 2, 0, 4, 5, 6, 7, 3)
        for figures in (20, 60, 61, 65, 900, 3999):
            for rest in range(-16, 17):
                # 15 is the turning's order, and the power of ten leaves 10 over.
                great = 10 ** figures + rest
                self.assertEqual(times(turning, great), done_one_by_one(turning, 10 + rest), (figures, rest))
                self.assertEqual(times(turning, -great), done_one_by_one(turning, -10 - rest), (figures, rest))

    def test_very_great_numbers_of_each_small_turning(self):
        great = 2 ** 3 * 3 * 5 * 7 * 10 ** 60
        for size in (1, 2, 3, 4):
            for turning in all_turnings(size):
                for rest in range(-4, 5):
                    self.assertEqual(times(turning, great + rest), done_one_by_one(turning, rest))
                    self.assertEqual(times(turning, rest - great), done_one_by_one(turning, rest))

    def test_what_is_no_number_is_refused(self):
        for at, many in enumerate(NO_NUMBERS):
            for turning in ((0,), (1, 2, 0), (1, 2, 3, 4, 5, 6, 7, 0)):
                with self.subTest(at=at, turning=turning):
                    self.assert_refused(BadNumber, times, turning, many)

    def test_what_is_no_turning_is_refused_ahead_of_the_number(self):
        for at, thing in enumerate(NO_TURNINGS):
            for many in (0, 1, -1, True, None, "2"):
                with self.subTest(at=at, many=many):
                    self.assert_refused(BadTurning, times, thing, many)

    def test_a_list_that_is_handed_in_is_not_changed(self):
        handed = [1, 0]
        self.assert_refused(BadTurning, times, handed, handed)
        self.assert_refused(BadNumber, times, (1, 0), handed)
        self.assertEqual(handed, [1, 0])


class NoTurnings(Refusing):
    def test_what_is_no_turning_is_refused(self):
        for at, thing in enumerate(NO_TURNINGS):
            for asked in (rings, is_even, order):
                with self.subTest(at=at, asked=asked.__name__):
                    self.assert_refused(BadTurning, asked, thing)


if __name__ == "__main__":
    unittest.main()
