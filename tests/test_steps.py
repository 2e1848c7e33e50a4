"""Points 1, 5 and 6, with made of the interface's turnkin/steps.py."""

import unittest
from random import Random

from helper import NO_NUMBERS, NO_ROWS, NO_SIZES, SIZES, Refusing, Unlike, all_turnings, random_few
from turnkin.errors import BadSize
from turnkin.steps import made

# What can be no step wherever it stands, and however many of the few and earlier steps there are.
NO_STEPS = [
    ("staying",), ("Stay",), ("",), ("stay ",), ("put", 0), ("times", 0, 2), (b"stay",), (0,), (None,), (True,),
    (("stay",),), ([],), (["stay"],), ({},), (Unlike(),), (0, 0), (Unlike(), 0), (None, 0, 0), (0, "few"), (),
    ("stay", 0), ("stay", None), ("stay", "stay"),
    ("few",), ("few", 0, 0), ("few", 0, None), ("few", -1), ("few", 40), ("few", 10 ** 60), ("few", -10 ** 60),
    ("back",), ("back", 0, 0), ("back", -1), ("back", 10 ** 60), ("back", -10 ** 60),
    ("behind",), ("behind", 0), ("behind", 0, 0, 0), ("behind", -1, 0), ("behind", 0, -1), ("behind", 10 ** 60, 0),
    ("behind", 0, 10 ** 60), ("behind", (0, 0)), ("behind", [0], [0]),
    "stay", "few", ["stay"], ["few", 0], ["back", 0], [], {}, {"stay"}, {"stay": 0}, frozenset(["stay"]),
    None, True, False, 0, 1, b"stay", 0.0, 1j, tuple, len, object(), Unlike(), iter(("stay",)),
]
for thing in NO_NUMBERS:
    NO_STEPS.extend([("few", thing), ("back", thing), ("behind", thing, 0), ("behind", 0, thing)])

RING, SWAP = (1, 2, 3, 0), (1, 0, 2, 3)


def any_steps(chance, few, many):
    """So many steps of any kind out of so many of the few."""
    steps = [("stay",)]
    while len(steps) < many:
        one, other = chance.randrange(len(steps)), chance.randrange(len(steps))
        kinds = [("stay",), ("back", one), ("behind", one, other)]
        if few:
            kinds.append(("few", chance.randrange(len(few))))
        steps.append(chance.choice(kinds))
    return steps


def gone_through(size, few, steps):
    """What the steps make, place by place, without the program."""
    told = []
    for step in steps:
        if step[0] == "stay":
            told.append(tuple(range(size)))
        elif step[0] == "few":
            told.append(few[step[1]])
        elif step[0] == "back":
            told.append(tuple(told[step[1]].index(place) for place in range(size)))
        else:
            told.append(tuple(told[step[2]][told[step[1]][place]] for place in range(size)))
    return told


class Made(Refusing):
    def test_each_kind_of_step(self):
        self.assertEqual(made(4, [], [("stay",)]), [(0, 1, 2, 3)])
        self.assertEqual(made(4, [RING, SWAP], [("few", 1)]), [SWAP])
        self.assertEqual(made(4, [RING, SWAP], [("few", 0), ("back", 0)]), [RING, (3, 0, 1, 2)])

    def test_behind_does_the_first_named_one_first(self):
        steps = [("few", 0), ("few", 1), ("behind", 0, 1), ("behind", 1, 0), ("behind", 0, 0)]
        told = made(4, [RING, SWAP], steps)
        self.assertEqual(told, [RING, SWAP, (0, 2, 3, 1), (2, 1, 3, 0), (2, 3, 0, 1)])

    def test_steps_of_steps(self):
        steps = [("few", 0), ("back", 0), ("back", 1), ("behind", 1, 2), ("behind", 2, 2), ("back", 4), ("behind", 5, 0)]
        self.assertEqual(made(4, [RING], steps), [
            RING, (3, 0, 1, 2), RING, (0, 1, 2, 3), (2, 3, 0, 1), (2, 3, 0, 1), (3, 0, 1, 2),
        ])

    def test_no_steps_make_nothing(self):
        for size in SIZES:
            for few in ([], (), [tuple(range(size))]):
                for steps in ([], ()):
                    self.assertEqual(made(size, few, steps), [])

    def test_few_and_steps_as_lists_and_as_tuples(self):
        steps = [("few", 1), ("few", 0), ("behind", 0, 1)]
        for few in ([RING, SWAP], (RING, SWAP)):
            for told in (steps, tuple(steps)):
                answer = made(4, few, told)
                self.assertIs(answer.__class__, list)
                self.assertEqual(answer, [SWAP, RING, (2, 1, 3, 0)])

    def test_it_makes_what_the_steps_say_of_each_size(self):
        for size in SIZES:
            chance = Random(size)
            for many in (0, 1, 2, 3, 39, 40):
                few = random_few(chance, size, many)
                steps = any_steps(chance, few, 60)
                told = made(size, few, steps)
                self.assertEqual(told, gone_through(size, few, steps))
                self.assertEqual({turning.__class__ for turning in told}, {tuple})

    def test_all_pairs_of_a_small_size(self):
        for one in all_turnings(3):
            for other in all_turnings(3):
                steps = [("few", 0), ("few", 1), ("behind", 0, 1), ("back", 2)]
                self.assertEqual(made(3, [one, other], steps), gone_through(3, [one, other], steps))

    def test_alike_ones_and_the_last_of_forty(self):
        few = [RING] * 39 + [SWAP]
        self.assertEqual(made(4, few, [("few", 38), ("few", 39)]), [RING, SWAP])

    def test_there_may_be_very_many_steps(self):
        steps = [("few", 0)] + [("behind", place, 0) for place in range(4999)]
        told = made(4, [RING], steps)
        self.assertEqual(len(told), 5000)
        self.assertEqual(told[-4:], [RING, (2, 3, 0, 1), (3, 0, 1, 2), (0, 1, 2, 3)])


class WrongSteps(Refusing):
    def test_what_is_no_list_and_no_tuple(self):
        for at, thing in enumerate([None, *NO_ROWS]):
            for few in ([], [RING]):
                with self.subTest(at=at, few=few):
                    self.assert_bad_step(0, made, 4, few, thing)

    def test_what_is_no_step_is_refused_with_its_place(self):
        right = [("stay",), ("few", 0), ("behind", 0, 1), ("back", 2), ("few", 1)]
        for at, thing in enumerate(NO_STEPS):
            for place in range(len(right) + 1):
                with self.subTest(at=at, place=place):
                    steps = right[:place] + [thing] + right[place:]
                    self.assert_bad_step(place, made, 4, [RING, SWAP], steps)
                    self.assert_bad_step(place, made, 4, (RING, SWAP), tuple(steps))

    def test_of_several_the_first_is_told(self):
        for place in range(6):
            steps = [("stay",)] * place + [("back", place), None, ("few", 9), ("stay", 0)]
            self.assert_bad_step(place, made, 4, [RING], steps)

    def test_a_step_names_earlier_ones_alone(self):
        for place in range(7):
            right = [("stay",)] * place
            for named in range(place):
                for step in (("back", named), ("behind", named, 0), ("behind", 0, named)):
                    self.assertEqual(len(made(4, [], right + [step])), place + 1)
            for named in (place, place + 1, place + 2, 100, -1, -place):
                if not 0 <= named < place:
                    for step in (("back", named), ("behind", named, 0), ("behind", 0, named)):
                        self.assert_bad_step(place, made, 4, [RING], right + [step] + right + right)

    def test_a_step_names_one_of_the_few_that_is_there(self):
        for many in range(41):
            few = [RING] * many
            for named in range(many):
                self.assertEqual(made(4, few, [("few", named)]), [RING])
            for named in (-1, -many, many, many + 1, 40):
                if not 0 <= named < many:
                    self.assert_bad_step(0, made, 4, few, [("few", named)])
                    # As many steps ahead of it as one likes make it no place of the few.
                    self.assert_bad_step(50, made, 4, few, [("stay",)] * 50 + [("few", named)])

    def test_true_and_false_are_no_places(self):
        few = [RING, SWAP]
        for step in (("few", True), ("few", False), ("back", True), ("back", False), ("behind", True, 0),
                     ("behind", 0, True), ("behind", False, 1), ("behind", 1, False)):
            self.assert_bad_step(2, made, 4, few, [("stay",), ("stay",), step])


class WrongFew(Refusing):
    def test_what_is_none_is_refused_with_its_place(self):
        for size in SIZES:
            with self.subTest(size=size):
                self.assert_wrong_few_are_refused(size, lambda few: made(size, few, [("stay",)]))

    def test_none_is_no_list(self):
        self.assert_bad_few(0, made, 3, None, [])

    def test_forty_are_still_a_few(self):
        for size in SIZES:
            few = [tuple(range(size))] * 40
            self.assertEqual(made(size, few, [("few", 39)]), [tuple(range(size))])
            self.assert_bad_few(40, made, size, few + few[:1], [("few", 39)])


class WrongOrder(Refusing):
    def test_what_is_no_size_is_refused_first(self):
        for at, size in enumerate(NO_SIZES):
            for few in ([], [(0, 1)], None, [None]):
                for steps in ([], [("stay",)], None, [None]):
                    with self.subTest(at=at, few=few, steps=steps):
                        self.assert_refused(BadSize, made, size, few, steps)

    def test_the_few_are_refused_ahead_of_the_steps(self):
        for steps in (None, "", [None], [("stay",), ("few", 9)], [("few", 1)], ["stay"]):
            self.assert_bad_few(1, made, 3, [(0, 1, 2), (0, 1)], steps)
            self.assert_bad_few(0, made, 3, None, steps)
            self.assert_bad_few(40, made, 3, [(0, 1, 2)] * 41, steps)


class HandedIn(Refusing):
    def test_what_is_handed_in_stays(self):
        few, steps = [RING, SWAP], [("few", 0), ("few", 1), ("behind", 0, 1)]
        made(4, few, steps)
        self.assertEqual((few, steps), ([RING, SWAP], [("few", 0), ("few", 1), ("behind", 0, 1)]))

    def test_what_is_refused_stays_too(self):
        few, steps, inner = [RING, [1, 0]], [("few", 0), ["few", 0]], ["few", 0]
        self.assert_bad_few(1, made, 4, few, steps)
        self.assert_bad_step(1, made, 4, few[:1], steps)
        self.assertEqual((few, steps), ([RING, [1, 0]], [("few", 0), inner]))

    def test_a_told_list_may_be_changed(self):
        few, steps = [RING, SWAP], [("few", 0), ("few", 1)]
        told = made(4, few, steps)
        told.clear()
        told.append(None)
        self.assertEqual(made(4, few, steps), [RING, SWAP])
        self.assertEqual((few, steps), ([RING, SWAP], [("few", 0), ("few", 1)]))

    def test_lists_that_were_handed_in_are_not_kept(self):
        few, steps = [RING], [("few", 0)]
        told = made(4, few, steps)
        few[0], steps[0] = SWAP, ("stay",)
        self.assertEqual(told, [RING])
        self.assertEqual(made(4, [RING], [("few", 0)]), [RING])


if __name__ == "__main__":
    unittest.main()
