"""Points 1, 7 and 14, with rounds, holds, joined and renamed of the interface's turnkin/house.py."""

import unittest
from random import Random

from helper import (SIZES, Refusing, all_that_come, all_turnings, answers, lists_of_few, no_turnings, promised,
                    random_few, some_turnings, swaps)
from turnkin.errors import BadTurning
from turnkin.house import House
from turnkin.ways import rounds


def renamed_by(turning, other):
    """The other one with its places renamed by the turning, place by place, without the program."""
    told = [None] * len(turning)
    for place, target in enumerate(other):
        told[turning[place]] = turning[target]
    return tuple(told)


class Rounds(Refusing):
    def test_they_are_those_of_the_few(self):
        self.assertEqual(House(5, [(1, 0, 2, 3, 4), (0, 1, 2, 4, 3)]).rounds(), [[0, 1], [2], [3, 4]])
        for size in SIZES:
            for few in lists_of_few(size):
                self.assertEqual(House(size, few).rounds(), rounds(size, few))

    def test_they_go_with_what_is_put(self):
        house = House(4)
        self.assertEqual(house.rounds(), [[0], [1], [2], [3]])
        house.put((3, 1, 2, 0))
        self.assertEqual(house.rounds(), [[0, 3], [1], [2]])
        house.put((0, 2, 1, 3))
        house.put((0, 1, 3, 2))
        self.assertEqual(house.rounds(), [[0, 1, 2, 3]])

    def test_what_is_told_may_be_changed(self):
        house = House(4, [(3, 1, 2, 0)])
        for _ in range(2):
            told = house.rounds()
            self.assertEqual(told, [[0, 3], [1], [2]])
            told[0].append(9)
            told.pop()


class Holds(Refusing):
    def test_ordinary_ones(self):
        ring, square, all_four = House(4, [(1, 2, 3, 0)]), House(4, [(2, 3, 0, 1)]), House(4, swaps(4))
        self.assertIs(ring.holds(square), True)
        self.assertIs(square.holds(ring), False)
        self.assertIs(all_four.holds(ring), True)
        self.assertIs(ring.holds(all_four), False)
        self.assertIs(House(4, [(1, 0, 2, 3)]).holds(House(4, [(0, 1, 3, 2)])), False)

    def test_each_holds_itself_and_the_house_of_none(self):
        for size in SIZES:
            for few in lists_of_few(size):
                house = House(size, few)
                self.assertIs(house.holds(house), True)
                self.assertIs(house.holds(House(size, few[::-1])), True)
                self.assertIs(house.holds(House(size)), True)
                self.assertIs(House(size).holds(house), house.many() == 1)
                self.assertIs(House(size, swaps(size)).holds(house), True)

    def test_either_way_against_all_that_come(self):
        for size in range(1, 6):
            told = lists_of_few(size)[:8] + lists_of_few(size)[-14:]
            houses = [(House(size, few), set(all_that_come(size, few))) for few in told]
            for house, turnings in houses:
                for other, others in houses:
                    self.assertIs(house.holds(other), others <= turnings)

    def test_it_goes_with_what_is_put(self):
        house, other = House(3, [(1, 2, 0)]), House(3, [(1, 0, 2)])
        self.assertIs(house.holds(other), False)
        house.put((2, 1, 0))
        self.assertIs(house.holds(other), True)
        self.assertIs(other.holds(house), False)


class Joined(Refusing):
    def test_its_own_few_stand_ahead(self):
        one, other = House(3, [(1, 0, 2), (0, 1, 2)]), House(3, [(0, 2, 1)])
        told = one.joined(other)
        self.assertIs(told.__class__, House)
        self.assertEqual(told.told(), [(1, 0, 2), (0, 1, 2), (0, 2, 1)])
        self.assertEqual(other.joined(one).told(), [(0, 2, 1), (1, 0, 2), (0, 1, 2)])
        self.assertEqual((told.many(), one.many(), other.many()), (6, 2, 2))

    def test_it_is_the_house_of_the_few_of_both(self):
        for size in SIZES:
            told = lists_of_few(size)[:10] + lists_of_few(size)[-6:]
            for one, other in zip(told, told[::-1]):
                if len(one) + len(other) <= 40:
                    asked = House(size, one).joined(House(size, other))
                    self.assertEqual(promised(asked), promised(House(size, one + other)))

    def test_with_itself(self):
        house = House(4, [(1, 2, 3, 0)])
        self.assertEqual(house.joined(house).told(), [(1, 2, 3, 0)] * 2)
        self.assertEqual(house.told(), [(1, 2, 3, 0)])

    def test_both_stay_and_do_not_follow(self):
        one, other = House(4, [(1, 0, 2, 3)]), House(4, [(0, 1, 3, 2)])
        before = answers(one), answers(other)
        told = one.joined(other)
        self.assertEqual((answers(one), answers(other)), before)
        told.put((1, 2, 3, 0))
        self.assertEqual((answers(one), answers(other)), before)
        joined = answers(told)
        one.put((0, 2, 1, 3))
        other.put((3, 1, 2, 0))
        self.assertEqual(answers(told), joined)

    def test_more_than_forty_are_refused(self):
        for size in SIZES:
            chance = Random(size)
            for many, others in ((40, 0), (0, 40), (20, 20), (39, 1), (1, 39)):
                one, other = House(size, random_few(chance, size, many)), House(size, random_few(chance, size, others))
                self.assertEqual(one.joined(other).told(), one.told() + other.told())
            for many, others in ((40, 1), (1, 40), (21, 20), (40, 40)):
                one, other = House(size, random_few(chance, size, many)), House(size, random_few(chance, size, others))
                before = answers(one), answers(other)
                self.assert_bad_few(40, one.joined, other)
                self.assertEqual((answers(one), answers(other)), before)


class Renamed(Refusing):
    def test_an_ordinary_one(self):
        house = House(4, [(1, 0, 2, 3), (0, 1, 3, 2)])
        told = house.renamed((1, 2, 3, 0))
        self.assertIs(told.__class__, House)
        self.assertEqual(told.told(), [(0, 2, 1, 3), (3, 1, 2, 0)])
        self.assertEqual(House(3, [(1, 0, 2)]).renamed((1, 2, 0)).told(), [(0, 2, 1)])
        self.assertEqual(House(3, [(1, 0, 2)]).renamed((2, 0, 1)).told(), [(2, 1, 0)])

    def test_the_few_are_renamed_in_their_order(self):
        for size in SIZES:
            for few in lists_of_few(size)[-12:]:
                house = House(size, few)
                for turning in some_turnings(size)[:40]:
                    asked = house.renamed(turning)
                    self.assertEqual(asked.told(), [renamed_by(turning, one) for one in few])
                    self.assertEqual(asked.many(), house.many())

    def test_all_turnings_are_renamed(self):
        for size in range(1, 5):
            for few in lists_of_few(size)[:10] + lists_of_few(size)[-8:]:
                turnings = all_that_come(size, few)
                for turning in all_turnings(size):
                    asked = House(size, few).renamed(turning)
                    found = [asked.turning_at(number) for number in range(asked.many())]
                    self.assertEqual(found, sorted(renamed_by(turning, one) for one in turnings))

    def test_renamed_back_it_is_as_before(self):
        for size in SIZES:
            for few in lists_of_few(size)[-6:]:
                house = House(size, few)
                for turning in some_turnings(size)[:20]:
                    undone = tuple(map(turning.index, range(size)))
                    self.assertEqual(promised(house.renamed(turning).renamed(undone)), promised(house))

    def test_renamed_by_one_of_its_own_it_has_the_same_turnings(self):
        for size in SIZES:
            chance = Random(size)
            for few in lists_of_few(size):
                house = House(size, few)
                for _ in range(5):
                    told = house.renamed(house.turning_at(chance.randrange(house.many())))
                    self.assertIs(told.holds(house) and house.holds(told), True)
                    self.assertEqual(told.levels(), house.levels())

    def test_renamed_by_staying_it_has_the_same_few(self):
        for size in SIZES:
            for few in lists_of_few(size):
                self.assertEqual(House(size, few).renamed(tuple(range(size))).told(), few)

    def test_it_stays_and_does_not_follow(self):
        house = House(4, [(1, 0, 2, 3)])
        before = answers(house)
        told = house.renamed((0, 2, 1, 3))
        told.put((1, 2, 3, 0))
        self.assertEqual(answers(house), before)
        renamed = answers(told)
        house.put((0, 1, 3, 2))
        self.assertEqual(answers(told), renamed)

    def test_what_is_no_turning_is_refused(self):
        for size in SIZES:
            for few in ([], [(*range(1, size), 0)]):
                house = House(size, few)
                before = answers(house)
                for at, thing in enumerate(no_turnings(size)):
                    with self.subTest(size=size, at=at):
                        self.assert_refused(BadTurning, house.renamed, thing)
                self.assertEqual(answers(house), before)


if __name__ == "__main__":
    unittest.main()
