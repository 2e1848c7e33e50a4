"""Points 1 and 2, with the interface's turnkin/turnings.py."""

import unittest

from helper import NO_SIZES, NO_TURNINGS, SIZES, Refusing, all_turnings, short_tuples, some_turnings
from turnkin.errors import BadSize, BadTurning
from turnkin.turnings import back, behind, is_turning, staying


class IsTurning(Refusing):
    def test_each_turning_is_one_of_its_own_size_alone(self):
        for size in SIZES:
            for turning in some_turnings(size):
                for asked in SIZES:
                    self.assertIs(is_turning(turning, asked), asked == size, (turning, asked))

    def test_among_all_short_tuples_only_the_turnings_are(self):
        for size in (1, 2, 3):
            turnings = all_turnings(size)
            for row in short_tuples(range(-1, size + 2), size + 1):
                self.assertIs(is_turning(row, size), row in turnings, (row, size))

    def test_anything_else_is_none_of_any_size(self):
        for at, thing in enumerate(NO_TURNINGS):
            for size in SIZES:
                with self.subTest(at=at, size=size):
                    self.assertIs(is_turning(thing, size), False)

    def test_too_short_and_too_long_ones_are_none(self):
        self.assertIs(is_turning((0, 1), 3), False)
        self.assertIs(is_turning((0, 1, 2, 3), 3), False)
        self.assertIs(is_turning((), 1), False)
        self.assertIs(is_turning((0, 1, 2, 3, 4, 5, 6, 7, 8), 8), False)

    def test_true_and_false_stand_for_no_place(self):
        self.assertIs(is_turning((False, True), 2), False)
        self.assertIs(is_turning((2, True, 0), 3), False)
        self.assertIs(is_turning((False,), 1), False)

    def test_what_is_no_size_is_refused_whatever_the_thing_is(self):
        for at, size in enumerate(NO_SIZES):
            for thing in ((), (0,), (0, 1, 2), tuple(range(9)), [0], "0", None):
                with self.subTest(at=at, thing=thing):
                    self.assert_refused(BadSize, is_turning, thing, size)

    def test_a_list_that_is_handed_in_is_not_changed(self):
        handed = [2, 0, 1]
        is_turning(handed, 3)
        self.assertEqual(handed, [2, 0, 1])


class Staying(Refusing):
    def test_it_leads_each_place_to_itself(self):
        for size in SIZES:
            with self.subTest(size=size):
                told = staying(size)
                self.assertIs(told.__class__, tuple)
                self.assertEqual(list(told), list(range(size)))

    def test_what_is_no_size_is_refused(self):
        for at, size in enumerate(NO_SIZES):
            with self.subTest(at=at):
                self.assert_refused(BadSize, staying, size)


class Behind(Refusing):
    def test_the_first_one_is_done_first(self):
        self.assertEqual(behind((1, 2, 0), (1, 0, 2)), (0, 2, 1))
        self.assertEqual(behind((1, 0, 2), (1, 2, 0)), (2, 1, 0))
        self.assertEqual(behind((1, 0, 2, 3, 4, 5, 6, 7), (1, 2, 3, 4, 5, 6, 7, 0)), (2, 1, 3, 4, 5, 6, 7, 0))

    def test_each_place_is_led_on_by_the_other_one(self):
        for size in SIZES:
            turnings = some_turnings(size)
            for one, other in zip(turnings, turnings[1:] + turnings[:1]):
                told = behind(one, other)
                self.assertTrue(is_turning(told, size))
                for place in range(size):
                    self.assertEqual(told[place], other[one[place]], (one, other))

    def test_all_pairs_of_a_small_size(self):
        for one in all_turnings(3):
            for other in all_turnings(3):
                self.assertEqual(behind(one, other), (other[one[0]], other[one[1]], other[one[2]]))

    def test_staying_changes_nothing_on_either_side(self):
        for size in SIZES:
            for turning in some_turnings(size):
                self.assertEqual(behind(turning, staying(size)), turning)
                self.assertEqual(behind(staying(size), turning), turning)

    def test_what_is_no_turning_is_refused_on_either_side(self):
        for at, thing in enumerate(NO_TURNINGS):
            with self.subTest(at=at):
                for size in SIZES:
                    self.assert_refused(BadTurning, behind, thing, staying(size))
                    self.assert_refused(BadTurning, behind, staying(size), thing)
                self.assert_refused(BadTurning, behind, thing, thing)

    def test_unlike_sizes_are_refused(self):
        for size in SIZES:
            for other in SIZES:
                if size != other:
                    with self.subTest(size=size, other=other):
                        self.assert_refused(BadTurning, behind, staying(size), staying(other))


class Back(Refusing):
    def test_it_leads_to_where_a_place_came_from(self):
        self.assertEqual(back((1, 2, 0)), (2, 0, 1))
        self.assertEqual(back((2, 0, 1, 3)), (1, 2, 0, 3))
        self.assertEqual(back((0,)), (0,))
        self.assertEqual(back((1, 2, 3, 4, 5, 6, 7, 0)), (7, 0, 1, 2, 3, 4, 5, 6))

    def test_either_way_round_it_stays(self):
        for size in SIZES:
            for turning in some_turnings(size):
                told = back(turning)
                self.assertTrue(is_turning(told, size))
                self.assertEqual(behind(turning, told), staying(size))
                self.assertEqual(behind(told, turning), staying(size))

    def test_what_is_no_turning_is_refused(self):
        for at, thing in enumerate(NO_TURNINGS):
            with self.subTest(at=at):
                self.assert_refused(BadTurning, back, thing)


class AfterRefusals(Refusing):
    def test_what_is_handed_in_is_as_before(self):
        handed = [1, 0]
        self.assert_refused(BadTurning, back, handed)
        self.assert_refused(BadTurning, behind, handed, (0, 1))
        self.assert_refused(BadSize, staying, handed)
        self.assertEqual(handed, [1, 0])

    def test_a_refusal_changes_no_later_answer(self):
        self.assert_refused(BadTurning, behind, (1, 2, 0), (1, 0))
        self.assertEqual(behind((1, 2, 0), (1, 0, 2)), (0, 2, 1))


if __name__ == "__main__":
    unittest.main()
