"""Points 1, 5 and 8 to 10, with House, put, told, levels, many and kept of the interface's turnkin/house.py."""

import unittest
from itertools import permutations
from math import factorial, prod
from random import Random

from helper import (NO_SIZES, SIZES, Refusing, all_that_come, all_turnings, answers, lists_of_few, no_places, no_turnings,
                    promised, random_few, swaps)
from turnkin.errors import BadPlace, BadSize, BadTurning
from turnkin.house import House

# Seven lines of three places each, any two of which meet in one place; these two turnings lead
# lines to lines, and all that do come of them.
LINES = [{place, (place + 1) % 7, (place + 3) % 7} for place in range(7)]
PLANE = [(1, 2, 3, 4, 5, 6, 0), (0, 2, 1, 6, 4, 5, 3)]


def places_at(level, turnings):
    """Where those of the turnings lead the level's place that lead each place below it to itself."""
    below = tuple(range(level))
    return sorted({turning[level] for turning in turnings if turning[:level] == below})


def all_of(house):
    """All turnings of the house by their numbers."""
    return [house.turning_at(number) for number in range(house.many())]


class New(Refusing):
    def test_none_of_the_few(self):
        for size in SIZES:
            for house in (House(size), House(size, None), House(size, []), House(size, ()), House(size, few=None)):
                self.assertEqual(house.told(), [])
                self.assertEqual(house.levels(), [[place] for place in range(size)])
                self.assertEqual(house.many(), 1)
                self.assertIs(house.has(tuple(range(size))), True)

    def test_lists_and_tuples(self):
        for size in SIZES:
            for few in lists_of_few(size):
                self.assertEqual(promised(House(size, few)), promised(House(size, tuple(few))))

    def test_what_is_no_size_is_refused_first(self):
        for at, size in enumerate(NO_SIZES):
            with self.subTest(at=at):
                self.assert_refused(BadSize, House, size)
                for few in (None, [], [(0, 1)], [None], "", True):
                    self.assert_refused(BadSize, House, size, few)

    def test_wrong_few_are_refused_with_their_place(self):
        for size in SIZES:
            with self.subTest(size=size):
                self.assert_wrong_few_are_refused(size, lambda few: House(size, few))

    def test_forty_are_still_a_few(self):
        for size in SIZES:
            few = random_few(Random(size), size, 40)
            self.assertEqual(House(size, few).told(), few)

    def test_it_does_not_follow_the_list_behind(self):
        few = [(1, 0, 2)]
        house = House(3, few)
        before = answers(house)
        few.append((1, 2, 0))
        few[0] = (2, 1, 0)
        self.assertEqual(answers(house), before)

    def test_what_is_put_does_not_change_the_list_behind(self):
        few = [(1, 0, 2)]
        house = House(3, few)
        house.put((1, 2, 0))
        self.assertEqual(few, [(1, 0, 2)])

    def test_a_list_that_is_refused_stays(self):
        few = [(1, 0, 2), [0], None]
        self.assert_bad_few(1, House, 3, few)
        self.assertEqual(few, [(1, 0, 2), [0], None])

    def test_houses_have_nothing_in_common(self):
        one, other = House(3), House(3)
        one.put((1, 2, 0))
        self.assertEqual((one.many(), other.many()), (3, 1))
        self.assertEqual(House(3).told(), [])


class Put(Refusing):
    def test_it_tells_nothing(self):
        self.assertIsNone(House(3).put((1, 2, 0)))

    def test_one_by_one_it_is_as_all_at_once(self):
        for size in SIZES:
            for few in lists_of_few(size):
                house = House(size)
                for turning in few:
                    house.put(turning)
                self.assertEqual(house.told(), few)
                self.assertEqual(promised(house), promised(House(size, few)))

    def test_after_each_one_all_that_comes_is_in(self):
        for size in range(1, 6):
            for few in lists_of_few(size)[-12:]:
                house = House(size, few[:1])
                for many, turning in enumerate(few[1:6], start=2):
                    house.put(turning)
                    self.assertEqual(all_of(house), all_that_come(size, few[:many]))

    def test_in_any_order(self):
        for size in SIZES:
            few = random_few(Random(size), size, 2) + swaps(size)[:2]
            asked = House(size, few)
            for row in list(permutations(few))[1:]:
                house = House(size, row)
                self.assertEqual(house.told(), list(row))
                self.assertEqual((house.levels(), house.many()), (asked.levels(), asked.many()))
                for number in range(0, asked.many(), 1 + asked.many() // 50):
                    self.assertEqual(house.turning_at(number), asked.turning_at(number))

    def test_what_is_in_already(self):
        for size in SIZES:
            chance = Random(size)
            for few in lists_of_few(size):
                house = House(size, few[:30])
                levels, many = house.levels(), house.many()
                put = [house.turning_at(chance.randrange(many)) for _ in range(8)]
                for turning in put:
                    house.put(turning)
                    self.assertEqual((house.levels(), house.many()), (levels, many))
                self.assertEqual(house.told(), few[:30] + put)

    def test_backs_come_too(self):
        for size in SIZES:
            ring = (*range(1, size), 0)
            house = House(size, [ring])
            self.assertEqual(house.many(), size)
            self.assertIs(house.has((size - 1, *range(size - 1))), True)

    def test_what_is_no_turning_is_refused(self):
        for size in SIZES:
            house = House(size, [(*range(1, size), 0)])
            before = answers(house)
            for at, thing in enumerate(no_turnings(size)):
                with self.subTest(size=size, at=at):
                    self.assert_refused(BadTurning, house.put, thing)
            self.assertEqual(answers(house), before)

    def test_the_forty_first_is_refused(self):
        for size in SIZES:
            house = House(size, [tuple(range(size))] * 39)
            house.put((*range(1, size), 0))
            before = answers(house)
            self.assertEqual((len(house.told()), house.many()), (40, size))
            for turning in (tuple(range(size)), (*range(1, size), 0), swaps(size)[-1] if size > 1 else (0,)):
                self.assert_bad_few(40, house.put, turning)
            self.assertEqual(answers(house), before)

    def test_what_is_no_turning_is_refused_ahead_of_the_forty_first(self):
        for size in SIZES:
            house = House(size, [tuple(range(size))] * 40)
            for at, thing in enumerate(no_turnings(size)):
                with self.subTest(size=size, at=at):
                    self.assert_refused(BadTurning, house.put, thing)
            self.assertEqual(house.told(), [tuple(range(size))] * 40)

    def test_a_list_that_is_handed_in_stays(self):
        handed = [1, 0, 2]
        self.assert_refused(BadTurning, House(3).put, handed)
        self.assertEqual(handed, [1, 0, 2])


class Told(Refusing):
    def test_it_may_be_changed(self):
        few = [(1, 0, 2), (0, 1, 2), (1, 0, 2)]
        house = House(3, few)
        for _ in range(2):
            told = house.told()
            self.assertEqual(told, few)
            self.assertIs(told.__class__, list)
            told.pop()
            told[0] = (2, 1, 0)
            told.extend([None] * 50)
        self.assertEqual(house.told(), few)
        house.put((2, 1, 0))
        self.assertEqual(house.told(), few + [(2, 1, 0)])


class Levels(Refusing):
    def test_ordinary_ones(self):
        self.assertEqual(House(4, [(1, 0, 2, 3), (0, 1, 3, 2)]).levels(), [[0, 1], [1], [2, 3], [3]])
        self.assertEqual(House(4, [(1, 2, 3, 0)]).levels(), [[0, 1, 2, 3], [1], [2], [3]])
        self.assertEqual(House(4, [(1, 2, 3, 0), (3, 2, 1, 0)]).levels(), [[0, 1, 2, 3], [1, 3], [2], [3]])
        self.assertEqual(House(5, [(4, 1, 2, 3, 0), (0, 3, 2, 1, 4)]).levels(), [[0, 4], [1, 3], [2], [3], [4]])

    def test_against_all_that_come(self):
        for size in range(1, 6):
            for few in lists_of_few(size):
                house, turnings = House(size, few), all_that_come(size, few)
                self.assertEqual(house.levels(), [places_at(level, turnings) for level in range(size)])
                self.assertEqual(house.many(), len(turnings))

    def test_against_all_that_come_of_more_places(self):
        for size in (6, 7, 8):
            for few in [swaps(size)[1:], swaps(size)[::2], *lists_of_few(size)[-8:-4]]:
                house, turnings = House(size, few), all_that_come(size, few)
                self.assertEqual(house.levels(), [places_at(level, turnings) for level in range(size)])
                self.assertEqual(house.many(), len(turnings))

    def test_many_is_the_product_of_how_many_places_they_have(self):
        for size in SIZES:
            for few in lists_of_few(size):
                house = House(size, few)
                self.assertEqual(house.many(), prod(len(level) for level in house.levels()))

    def test_all_turnings_of_a_size(self):
        for size in SIZES:
            ring = (*range(1, size), 0)
            for few in (swaps(size), [ring, *swaps(size)[:1]], [ring[::-1], *swaps(size)]):
                house = House(size, few)
                self.assertEqual(house.many(), factorial(size))
                self.assertEqual(house.levels(), [list(range(level, size)) for level in range(size)])

    def test_all_even_turnings_of_a_size(self):
        for size in range(3, 9):
            few = [(*range(at), at + 1, at + 2, at, *range(at + 3, size)) for at in range(size - 2)]
            house = House(size, few)
            self.assertEqual(house.many(), factorial(size) // 2)
            self.assertEqual(house.levels()[-2:], [[size - 2], [size - 1]])

    def test_those_that_keep_the_lines_of_a_plane(self):
        house = House(7, PLANE)
        keeping = [turning for turning in all_turnings(7)
                   if all({turning[place] for place in line} in LINES for line in LINES)]
        self.assertEqual(house.many(), 168)
        self.assertEqual(all_of(house), keeping)

    def test_what_is_told_may_be_changed(self):
        house = House(4, [(1, 2, 3, 0)])
        for _ in range(2):
            told = house.levels()
            self.assertEqual(told, [[0, 1, 2, 3], [1], [2], [3]])
            self.assertEqual([told.__class__, *[level.__class__ for level in told]], [list] * 5)
            told[0].append(9)
            told[1].clear()
            told.pop()
        self.assertEqual(house.many(), 4)
        self.assertIs(house.has((3, 0, 1, 2)), True)


class KeptTurnings(Refusing):
    def test_one_is_kept_for_each_place_of_a_level_and_for_no_other(self):
        for size in SIZES:
            for few in lists_of_few(size):
                house = House(size, few)
                for level, places in enumerate(house.levels()):
                    for place in range(size):
                        self.check_kept(house, level, place, place in places)

    def check_kept(self, house, level, place, there):
        told = house.kept(level, place)
        if not there:
            self.assertIsNone(told)
            return
        self.assertIs(told.__class__, tuple)
        self.assertEqual(told[:level + 1], (*range(level), place))
        self.assertIs(house.has(told), True)
        if place == level:
            self.assertEqual(told, tuple(range(len(told))))

    def test_they_are_among_all_that_come(self):
        for size in range(1, 6):
            for few in lists_of_few(size):
                house, turnings = House(size, few), set(all_that_come(size, few))
                told = {house.kept(level, place) for level in range(size) for place in range(size)}
                self.assertEqual(told - turnings, {None} if size > 1 else set())

    def test_the_same_one_is_told_till_more_is_put(self):
        for size in SIZES:
            for few in lists_of_few(size):
                house = House(size, few)
                before = [house.kept(level, place) for level in range(size) for place in range(size)]
                house.has(tuple(range(size)))
                house.shown(house.turning_at(house.many() - 1))
                house.joined(House(size))
                self.assertEqual([house.kept(level, place) for level in range(size) for place in range(size)], before)

    def test_what_is_no_level_or_no_place_is_refused(self):
        for size in SIZES:
            house = House(size, [(*range(1, size), 0)])
            for at, thing in enumerate(no_places(size)):
                with self.subTest(size=size, at=at):
                    self.assert_refused(BadPlace, house.kept, thing, 0)
                    self.assert_refused(BadPlace, house.kept, 0, thing)
                    self.assert_refused(BadPlace, house.kept, thing, thing)
                    self.assert_refused(BadPlace, house.kept, size - 1, thing)


if __name__ == "__main__":
    unittest.main()
