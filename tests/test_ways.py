"""Points 1, 5 and 7, with rounds and way of the interface's turnkin/ways.py."""

import unittest
from itertools import product

from helper import NO_SIZES, SIZES, Refusing, all_that_come, all_turnings, lists_of_few, no_places
from turnkin.errors import BadPlace, BadSize
from turnkin.ways import rounds, way

FEW = [(1, 2, 0, 3, 4, 5), (0, 1, 2, 4, 3, 5)]


def led_along(few, place, numbers):
    """Where the numbers lead the place, one behind the other, without the program."""
    for number in numbers:
        place = few[number][place] if number >= 0 else few[-1 - number].index(place)
    return place


def lengths(size, few):
    """For each two places the length of a shortest way, where there is one."""
    told = {(place, place): 0 for place in range(size)}
    steps = {(place, turning[place]) for turning in few for place in range(size)}
    steps |= {(other, place) for place, other in steps}
    for length in range(1, size):
        for place, other in list(told):
            for one, target in steps:
                if one == other and (place, target) not in told:
                    told[place, target] = length
    return told


class Rounds(Refusing):
    def test_ordinary_ones(self):
        self.assertEqual(rounds(6, FEW), [[0, 1, 2], [3, 4], [5]])
        self.assertEqual(rounds(6, [(5, 1, 2, 3, 4, 0), (0, 4, 2, 3, 1, 5)]), [[0, 5], [1, 4], [2], [3]])
        self.assertEqual(rounds(4, [(1, 0, 2, 3), (0, 1, 3, 2), (0, 2, 1, 3)]), [[0, 1, 2, 3]])
        self.assertEqual(rounds(4, [(3, 1, 2, 0), (0, 3, 2, 1)]), [[0, 1, 3], [2]])

    def test_of_none_of_the_few_each_place_is_alone(self):
        for size in SIZES:
            for few in ([], (), [tuple(range(size))], [tuple(range(size))] * 40):
                with self.subTest(size=size, few=few):
                    self.assertEqual(rounds(size, few), [[place] for place in range(size)])

    def test_a_ring_of_all_is_one_round(self):
        for size in SIZES:
            ring = (*range(1, size), 0)
            self.assertEqual(rounds(size, [ring]), [list(range(size))])

    def test_they_are_lists_in_a_list(self):
        told = rounds(6, tuple(FEW))
        self.assertIs(told.__class__, list)
        self.assertEqual([part.__class__ for part in told], [list] * 3)

    def test_all_places_stand_in_them_once_and_rise(self):
        for size in SIZES:
            for few in lists_of_few(size):
                told = rounds(size, few)
                self.assertEqual(sorted(place for part in told for place in part), list(range(size)))
                self.assertEqual(told, sorted(sorted(part) for part in told))

    def test_just_those_that_are_led_to_one_another_stand_together(self):
        for size in range(1, 6):
            for few in lists_of_few(size):
                told = rounds(size, few)
                led = {(place, turning[place]) for turning in all_that_come(size, few) for place in range(size)}
                self.assertEqual({(place, other) for part in told for place in part for other in part}, led)

    def test_more_places(self):
        for size in (6, 7, 8):
            for few in lists_of_few(size):
                together = {(place, other) for part in rounds(size, few) for place in part for other in part}
                self.assertEqual(together, set(lengths(size, few)))

    def test_a_told_list_may_be_changed(self):
        told = rounds(6, FEW)
        told[0].append(9)
        told.pop()
        self.assertEqual(rounds(6, FEW), [[0, 1, 2], [3, 4], [5]])


class Way(Refusing):
    def test_ordinary_ones(self):
        self.assertEqual(way(6, FEW, 0, 1), [0])
        self.assertEqual(way(6, FEW, 0, 2), [-1])
        self.assertEqual(way(6, FEW, 1, 0), [-1])
        self.assertIn(way(6, FEW, 3, 4), ([1], [-2]))
        self.assertIsNone(way(6, FEW, 0, 3))
        self.assertIsNone(way(6, FEW, 5, 0))
        self.assertEqual(way(8, [(1, 2, 3, 4, 5, 6, 7, 0)], 0, 3), [0, 0, 0])
        self.assertEqual(way(8, [(1, 2, 3, 4, 5, 6, 7, 0)], 0, 5), [-1, -1, -1])

    def test_the_numbers_of_the_last_of_forty(self):
        few = [(0, 1, 2)] * 39 + [(1, 2, 0)]
        self.assertEqual(way(3, few, 0, 1), [39])
        self.assertEqual(way(3, few, 1, 0), [-40])

    def test_from_a_place_to_itself_it_is_empty(self):
        for size in SIZES:
            for few in lists_of_few(size):
                for place in range(size):
                    self.assertEqual(way(size, few, place, place), [])

    def test_it_leads_there_and_none_is_shorter(self):
        for size in SIZES:
            for few in lists_of_few(size):
                shortest = lengths(size, few)
                for place, other in product(range(size), repeat=2):
                    told = way(size, few, place, other)
                    if (place, other) not in shortest:
                        self.assertIsNone(told)
                        continue
                    self.assertIs(told.__class__, list)
                    self.assertEqual({number.__class__ for number in told} - {int}, set())
                    self.assertEqual(led_along(few, place, told), other)
                    self.assertEqual(len(told), shortest[place, other])

    def test_against_all_ways_of_a_small_size(self):
        for size in (2, 3, 4):
            for few in ([one, other] for one in all_turnings(size)[::3] for other in all_turnings(size)[::2]):
                for place, other in product(range(size), repeat=2):
                    leading = [numbers for length in range(size) for numbers in product((0, 1, -1, -2), repeat=length)
                               if led_along(few, place, numbers) == other]
                    told = way(size, few, place, other)
                    if leading:
                        self.assertIn(tuple(told), leading)
                        self.assertEqual(len(told), len(leading[0]))
                    else:
                        self.assertIsNone(told)

    def test_there_is_none_just_where_the_rounds_are_two(self):
        for size in SIZES:
            for few in lists_of_few(size):
                for part in rounds(size, few):
                    for place, other in product(part, range(size)):
                        self.assertEqual(way(size, few, place, other) is None, other not in part)

    def test_the_same_one_is_told_each_time(self):
        for size in (4, 8):
            for few in lists_of_few(size):
                for place, other in product(range(size), repeat=2):
                    told = way(size, few, place, other)
                    self.assertEqual(way(size, list(few), place, other), told)
                    self.assertEqual(way(size, tuple(few), place, other), told)

    def test_a_told_list_may_be_changed(self):
        for place, other in ((0, 1), (0, 0), (3, 4)):
            told = way(6, FEW, place, other)
            before = list(told)
            told.append(7)
            self.assertEqual(way(6, FEW, place, other), before)


class Refusals(Refusing):
    def test_what_is_no_size_is_refused_first(self):
        for at, size in enumerate(NO_SIZES):
            for few in ([], [(0, 1)], None, [None]):
                with self.subTest(at=at, few=few):
                    self.assert_refused(BadSize, rounds, size, few)
                    self.assert_refused(BadSize, way, size, few, 0, 0)
                    self.assert_refused(BadSize, way, size, few, None, -1)

    def test_wrong_few_are_refused_with_their_place(self):
        for size in SIZES:
            with self.subTest(size=size):
                self.assert_wrong_few_are_refused(size, lambda few: rounds(size, few))
                self.assert_wrong_few_are_refused(size, lambda few: way(size, few, 0, size - 1))
                self.assert_wrong_few_are_refused(size, lambda few: way(size, few, size, None))
        self.assert_bad_few(0, rounds, 3, None)
        self.assert_bad_few(0, way, 3, None, 0, 1)

    def test_what_is_no_place_is_refused_last(self):
        for size in SIZES:
            for at, thing in enumerate(no_places(size)):
                for few in ([], [(*range(1, size), 0)]):
                    with self.subTest(size=size, at=at):
                        self.assert_refused(BadPlace, way, size, few, thing, 0)
                        self.assert_refused(BadPlace, way, size, few, 0, thing)
                        self.assert_refused(BadPlace, way, size, few, thing, thing)

    def test_what_is_handed_in_stays(self):
        few = list(FEW)
        rounds(6, few)
        way(6, few, 0, 2)
        self.assert_refused(BadPlace, way, 6, few, 0, 6)
        self.assertEqual(few, FEW)
        wrong = [FEW[0], [0]]
        self.assert_bad_few(1, rounds, 6, wrong)
        self.assert_bad_few(1, way, 6, wrong, 0, 1)
        self.assertEqual(wrong, [FEW[0], [0]])


if __name__ == "__main__":
    unittest.main()
