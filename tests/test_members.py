"""Points 1 and 11 to 13, with has, fall, shown, number and turning_at of the interface's turnkin/house.py."""

import unittest
from random import Random

from helper import (NO_NUMBERS, SIZES, Refusing, all_that_come, all_turnings, answers, lists_of_few, no_turnings,
                    random_few, some_turnings, swaps)
from turnkin.errors import BadNumber, BadTurning, NotIn
from turnkin.house import House
from turnkin.steps import made

MOST_STEPS = 2000


def some_few(size):
    """Lists of a few turnings of which as many come as a test can go through."""
    told = lists_of_few(size)
    return told if size <= 4 else told[:12] + told[-8:]


def fall_among(turning, turnings):
    """The least level up to which none of the turnings leads each place as this one does, or None."""
    for level in range(len(turning)):
        if not any(other[:level + 1] == turning[:level + 1] for other in turnings):
            return level
    return None


class HasAndFall(Refusing):
    def test_ordinary_ones(self):
        house = House(4, [(1, 2, 3, 0)])
        self.assertIs(house.has((2, 3, 0, 1)), True)
        self.assertIsNone(house.fall((2, 3, 0, 1)))
        self.assertIs(house.has((2, 3, 1, 0)), False)
        self.assertEqual(house.fall((2, 3, 1, 0)), 2)
        self.assertEqual(house.fall((0, 2, 1, 3)), 1)
        self.assertEqual(House(4, [(0, 2, 1, 3)]).fall((1, 0, 2, 3)), 0)

    def test_all_turnings_against_all_that_come(self):
        for size in range(1, 6):
            for few in some_few(size):
                house, turnings = House(size, few), all_that_come(size, few)
                starts = {turning[:level] for turning in turnings for level in range(1, size + 1)}
                for turning in all_turnings(size):
                    missed = [level for level in range(size) if turning[:level + 1] not in starts]
                    self.assertEqual(house.fall(turning), missed[0] if missed else None)
                    self.assertIs(house.has(turning), not missed)

    def test_some_turnings_of_more_places(self):
        for size in (6, 7, 8):
            for few in ([], [(*range(1, size), 0)], swaps(size)[2:5], swaps(size)[::2], swaps(size)[:3]):
                house, turnings = House(size, few), all_that_come(size, few)
                for turning in some_turnings(size) + turnings[::7]:
                    self.assertEqual(house.fall(turning), fall_among(turning, turnings))
                    self.assertIs(house.has(turning), turning in turnings)

    def test_where_all_are_in_none_falls(self):
        for size in SIZES:
            house = House(size, swaps(size))
            for turning in some_turnings(size):
                self.assertIs(house.has(turning), True)
                self.assertIsNone(house.fall(turning))

    def test_staying_the_few_and_their_backs_are_in(self):
        for size in SIZES:
            for few in lists_of_few(size):
                house = House(size, few)
                self.assertIs(house.has(tuple(range(size))), True)
                for turning in few:
                    self.assertIs(house.has(turning), True)
                    self.assertIs(house.has(tuple(map(turning.index, range(size)))), True)


class Shown(Refusing):
    def assert_shown(self, house, size, turning):
        steps = house.shown(turning)
        self.assertIs(steps.__class__, list)
        self.assertLessEqual(len(steps), MOST_STEPS)
        self.assertEqual(made(size, house.told(), steps)[-1], turning)

    def test_all_turnings_of_small_sizes(self):
        for size in range(1, 6):
            for few in some_few(size):
                house = House(size, few)
                for turning in all_that_come(size, few):
                    self.assert_shown(house, size, turning)

    def test_turnings_of_more_places(self):
        for size in (6, 7, 8):
            for few in lists_of_few(size):
                house, chance = House(size, few), Random(size)
                for _ in range(12):
                    self.assert_shown(house, size, house.turning_at(chance.randrange(house.many())))

    def test_forty_few_at_eight_places(self):
        for seed in range(6):
            self.assert_all_kinds_shown(random_few(Random(seed), 8, 40))
        stay = tuple(range(8))
        # Each of the swaps brings in little, so that as many as can be are needed, first and last ones.
        self.assert_all_kinds_shown([stay] * 19 + swaps(8)[::-1] * 3)
        self.assert_all_kinds_shown([turning for swap in swaps(8) for turning in [stay] * 4 + [swap]] + [stay] * 5)

    def assert_all_kinds_shown(self, few):
        self.assertEqual(len(few), 40)
        house = House(8, few)
        for turning in [tuple(range(8)), *few, *few[::-1], *some_turnings(8)]:
            if house.has(turning):
                self.assert_shown(house, 8, turning)

    def test_as_they_were_put(self):
        for size in (3, 5, 8):
            house, few = House(size), [tuple(range(size))] * 3 + swaps(size)
            for turning in few:
                house.put(turning)
                self.assert_shown(house, size, turning)
                self.assert_shown(house, size, house.turning_at(house.many() - 1))

    def test_more_that_is_put_is_shown_out_of_all(self):
        house = House(5, [(1, 2, 3, 4, 0)])
        before = house.shown((2, 3, 4, 0, 1))
        house.put((1, 0, 2, 3, 4))
        for turning in all_turnings(5):
            self.assert_shown(house, 5, turning)
        self.assertEqual(made(5, house.told(), before)[-1], (2, 3, 4, 0, 1))

    def test_staying_with_none_of_the_few(self):
        for size in SIZES:
            self.assert_shown(House(size), size, tuple(range(size)))

    def test_one_that_is_not_in_is_refused_with_its_level(self):
        for size in range(2, 9):
            for few in ([], [(*range(1, size), 0)], swaps(size)[1:], swaps(size)[::2]):
                house = House(size, few)
                before = answers(house)
                for turning in some_turnings(size):
                    level = house.fall(turning)
                    if level is not None:
                        for asked in (house.shown, house.number):
                            self.assertEqual(vars(self.assert_refused(NotIn, asked, turning)), {"level": level})
                self.assertEqual(answers(house), before)

    def test_a_told_list_may_be_changed(self):
        house = House(4, [(1, 2, 3, 0), (1, 0, 2, 3)])
        for turning in ((0, 1, 2, 3), (3, 2, 1, 0), (1, 2, 3, 0)):
            told = house.shown(turning)
            before = list(told)
            told.clear()
            told.append(("few", 9))
            self.assertEqual(house.shown(turning), before)


class Numbers(Refusing):
    def test_ordinary_ones(self):
        house = House(4, [(1, 2, 3, 0)])
        self.assertEqual([house.turning_at(number) for number in range(4)],
                         [(0, 1, 2, 3), (1, 2, 3, 0), (2, 3, 0, 1), (3, 0, 1, 2)])
        self.assertEqual(house.number((2, 3, 0, 1)), 2)
        self.assertEqual(House(3, swaps(3)).number((1, 2, 0)), 3)
        self.assertEqual(House(8, swaps(8)).turning_at(40319), (7, 6, 5, 4, 3, 2, 1, 0))

    def test_they_rise_as_tuples_do(self):
        for size in range(1, 6):
            for few in lists_of_few(size):
                house, turnings = House(size, few), all_that_come(size, few)
                self.assertEqual([house.turning_at(number) for number in range(len(turnings))], turnings)
                self.assertEqual([house.number(turning) for turning in turnings], list(range(len(turnings))))

    def test_more_places(self):
        for size in (6, 7, 8):
            for few in [swaps(size), *lists_of_few(size)[-8:]]:
                house, turnings = House(size, few), all_that_come(size, few)
                for number in range(0, len(turnings), 1 + len(turnings) // 300):
                    self.assertEqual(house.turning_at(number), turnings[number])
                    self.assertEqual(house.number(turnings[number]), number)

    def test_the_first_is_staying_and_the_last_has_the_last_number(self):
        for size in SIZES:
            for few in lists_of_few(size):
                house = House(size, few)
                self.assertEqual(house.turning_at(0), tuple(range(size)))
                self.assertEqual(house.number(house.turning_at(house.many() - 1)), house.many() - 1)

    def test_what_is_told_is_a_turning(self):
        for size in SIZES:
            told = House(size, swaps(size)).turning_at(0)
            self.assertIs(told.__class__, tuple)
            self.assertEqual({place.__class__ for place in told}, {int})

    def test_what_is_no_number_of_one_is_refused(self):
        for size in SIZES:
            for few in lists_of_few(size)[:12]:
                house = House(size, few)
                many = house.many()
                wrong = [-1, -many, -many - 1, many, many + 1, 2 * many, 10 ** 60, -10 ** 60, 10 ** 3999]
                for at, thing in enumerate(wrong + NO_NUMBERS):
                    with self.subTest(size=size, at=at):
                        self.assert_refused(BadNumber, house.turning_at, thing)

    def test_numbers_go_up_when_more_is_put(self):
        house = House(3, [(1, 2, 0)])
        self.assert_refused(BadNumber, house.turning_at, 3)
        self.assertEqual(house.number((2, 0, 1)), 2)
        house.put((1, 0, 2))
        self.assertEqual(house.turning_at(3), (1, 2, 0))
        self.assertEqual(house.number((2, 0, 1)), 4)


class NoTurnings(Refusing):
    def test_what_is_no_turning_is_refused_first(self):
        for size in SIZES:
            for few in ([], swaps(size), [(*range(1, size), 0)]):
                house = House(size, few)
                before = answers(house)
                for at, thing in enumerate(no_turnings(size)):
                    for asked in (house.has, house.fall, house.shown, house.number):
                        with self.subTest(size=size, at=at, asked=asked.__name__):
                            self.assert_refused(BadTurning, asked, thing)
                self.assertEqual(answers(house), before)

    def test_a_list_that_is_handed_in_stays(self):
        house, handed = House(3, [(1, 0, 2)]), [1, 0, 2]
        for asked in (house.has, house.fall, house.shown, house.number):
            self.assert_refused(BadTurning, asked, handed)
        self.assert_refused(BadNumber, house.turning_at, handed)
        self.assertEqual(handed, [1, 0, 2])


if __name__ == "__main__":
    unittest.main()
