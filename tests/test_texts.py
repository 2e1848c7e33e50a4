"""Point 4, with text_of and read_turning of the interface's turnkin/rings.py."""

import re
import unittest
from itertools import permutations, product

from helper import NO_SIZES, NO_TURNINGS, SIZES, Refusing, Unlike, all_turnings, some_turnings
from turnkin.errors import BadSize, BadText, BadTurning
from turnkin.rings import read_turning, rings, text_of
from turnkin.turnings import staying

RINGS = re.compile(r"(\([0-7]( [0-7])+\))+")
PLAIN_SIGNS = [chr(number) for number in range(32, 127)]

WRONG = {
    "no sign at all": ["", " ", "  "],
    "a sign left out": ["0 3 1)(2 4)", "(0 3 1(2 4)", "(0 3 1)2 4)", "(0 3 1)(2 4", "(03 1)(2 4)", "(0 31)(2 4)",
                        "(0 3 1)(24)", "(", ")", "0 1", "(01)"],
    "a sign put in": ["((0 3 1)(2 4)", "(0 3 1))(2 4)", "(0 3 1)((2 4)", "(0 3 1)(2 4))", "(0 3 1),(2 4)",
                      "((0 3 1)(2 4))", "(0, 3, 1)", "(0 3 1)(2 4).", "x(0 3 1)", "(0 3 1)x", "(+0 3)", "(0 -1)",
                      "(())", "(0 3 (2 4) 1)"],
    "a sign exchanged": ["[0 3 1](2 4)", "(0,3 1)(2 4)", "(0 x 1)(2 4)", "(0 3 1)-(2 4)", "{0 1}", "<0 1>",
                         ")0 1(", "(0.3.1)", "(0 a)", "(O 1)"],
    "a place beyond the size": ["(0 5)", "(5 0)", "(0 6)", "(0 7)", "(0 8)", "(0 9)", "(0 3 1)(2 5)", "(5 6)"],
    "a place twice": ["(0 0)", "(0 1 0)", "(0 1 1)", "(4 4 4)", "(0 3 1)(2 4 2)"],
    "a place in two rings": ["(0 1)(1 2)", "(0 1)(0 1)", "(0 3 1)(2 3)", "(0 1)(2 3)(4 0)"],
    "a ring of one place": ["(0)", "(4)", "(0 1)(2)", "(2)(0 1)", "(0)(1)", "(0)(1)(2)(3)(4)", "(0 3 1)(2)(4)"],
    "a ring of none beside others": ["()(0 1)", "(0 1)()", "(0 1)()(2 3)", "()()", "()()()", "()(0)"],
    "a ring of a blank": ["( )", "(  )", "( )(0 1)", "(0 1)( )"],
    "two blanks": ["(0  1)", "(0 3  1)(2 4)", "(0 3 1)  (2 4)"],
    "a blank too many": ["( 0 1)", "(0 1 )", "(0 3 1) (2 4)", "(0 3 1 )(2 4)", "(0 3 1)( 2 4)"],
    "a blank at the start or the end": [" (0 1)", "(0 1) ", " (0 1) ", " ()", "() ", "  (0 1)"],
    "figures of two signs": ["(00 1)", "(0 01)", "(01 02)", "(10 1)", "(0 11)", "(0 10)", "(+1 0)", "(-1 0)"],
}

NO_TEXTS = [
    None, True, False, 0, 1, 10 ** 60, 0.0, 1j, b"", b"()", b"(0 1)", (), (0, 1), ("(0 1)",), [], ["(0 1)"],
    ["(", "0", " ", "1", ")"], [[0, 1]], {}, {0: 1}, {"(0 1)"}, range(2), str, len, object(), Unlike(),
]


def ways_to_write(turning):
    """All texts that write the turning: its rings in any order, each begun anywhere."""
    told = rings(turning)
    if not told:
        return ["()"]
    written = []
    for row in permutations(told):
        for starts in product(*[range(len(ring)) for ring in row]):
            turned = [ring[start:] + ring[:start] for ring, start in zip(row, starts)]
            written.append("".join("(" + " ".join(map(str, ring)) + ")" for ring in turned))
    return written


def is_right(size, text):
    """Whether the text writes a turning of the size, asked without the program."""
    if text == "()":
        return True
    places = [int(sign) for sign in text if sign in "01234567"]
    return bool(RINGS.fullmatch(text)) and len(set(places)) == len(places) and max(places) < size


def one_sign_off(text):
    """All texts with one sign of this one left out, put in or exchanged."""
    told = []
    for at in range(len(text) + 1):
        told.append(text[:at] + text[at + 1:])
        for sign in PLAIN_SIGNS:
            told.append(text[:at] + sign + text[at:])
            told.append(text[:at] + sign + text[at + 1:])
    return told


class TextOf(Refusing):
    def test_ordinary_ones(self):
        self.assertEqual(text_of((3, 0, 4, 1, 2)), "(0 3 1)(2 4)")
        self.assertEqual(text_of((0, 2, 1)), "(1 2)")
        self.assertEqual(text_of((7, 6, 5, 4, 3, 2, 1, 0)), "(0 7)(1 6)(2 5)(3 4)")
        self.assertEqual(text_of((1, 2, 3, 4, 5, 6, 7, 0)), "(0 1 2 3 4 5 6 7)")

    def test_staying(self):
        for size in SIZES:
            with self.subTest(size=size):
                self.assertEqual(text_of(staying(size)), "()")

    def test_it_writes_the_told_rings(self):
        for size in SIZES:
            for turning in some_turnings(size):
                self.assertEqual(text_of(turning), ways_to_write(turning)[0])

    def test_what_is_no_turning_is_refused(self):
        for at, thing in enumerate(NO_TURNINGS):
            with self.subTest(at=at):
                self.assert_refused(BadTurning, text_of, thing)


class ReadTurning(Refusing):
    def test_ordinary_ones(self):
        self.assertEqual(read_turning(5, "(0 3 1)(2 4)"), (3, 0, 4, 1, 2))
        self.assertEqual(read_turning(6, "(0 3 1)(2 4)"), (3, 0, 4, 1, 2, 5))
        self.assertEqual(read_turning(2, "(1 0)"), (1, 0))
        self.assertEqual(read_turning(8, "(7 0)"), (7, 1, 2, 3, 4, 5, 6, 0))

    def test_staying_of_each_size(self):
        for size in SIZES:
            with self.subTest(size=size):
                self.assertEqual(read_turning(size, "()"), staying(size))

    def test_what_is_written_is_read_again(self):
        for size in SIZES:
            for turning in some_turnings(size):
                told = read_turning(size, text_of(turning))
                self.assertIs(told.__class__, tuple)
                self.assertEqual(told, turning)

    def test_the_rings_in_another_order_and_begun_elsewhere(self):
        self.assertEqual(read_turning(5, "(2 4)(0 3 1)"), (3, 0, 4, 1, 2))
        self.assertEqual(read_turning(5, "(4 2)(1 0 3)"), (3, 0, 4, 1, 2))
        for size in SIZES:
            for turning in some_turnings(size)[:130]:
                for text in ways_to_write(turning):
                    self.assertEqual(read_turning(size, text), turning, text)

    def test_what_is_no_size_is_refused_ahead_of_the_text(self):
        for at, size in enumerate(NO_SIZES):
            for text in ("()", "(0 1)", "", "(0", None, 3):
                with self.subTest(at=at, text=text):
                    self.assert_refused(BadSize, read_turning, size, text)


class WrongTexts(Refusing):
    def test_each_kind(self):
        for kind, texts in WRONG.items():
            for text in texts:
                with self.subTest(kind=kind, text=text):
                    self.assert_refused(BadText, read_turning, 5, text)

    def test_a_place_beyond_each_size(self):
        for size in SIZES:
            for place in range(size, 100):
                with self.subTest(size=size, place=place):
                    self.assert_refused(BadText, read_turning, size, f"(0 {place})")
                    self.assert_refused(BadText, read_turning, size, f"({place} 0)")

    def test_of_one_place_only_staying_can_be_read(self):
        for text in ("(0)", "(0 0)", "(0 1)", "(1 0)", "0"):
            with self.subTest(text=text):
                self.assert_refused(BadText, read_turning, 1, text)

    def test_what_is_no_text(self):
        for at, thing in enumerate(NO_TEXTS):
            for size in SIZES:
                with self.subTest(at=at, size=size):
                    self.assert_refused(BadText, read_turning, size, thing)

    def test_a_very_long_text(self):
        self.assert_refused(BadText, read_turning, 8, "(0 1)" * 50000)
        self.assert_refused(BadText, read_turning, 8, "(" + " " * 50000 + ")")
        self.assert_refused(BadText, read_turning, 8, "(" * 50000 + ")" * 50000)

    def test_a_list_that_is_handed_in_is_not_changed(self):
        handed = ["(0 1)"]
        self.assert_refused(BadText, read_turning, 2, handed)
        self.assertEqual(handed, ["(0 1)"])

    def test_all_short_texts_of_these_signs(self):
        for size, longest in ((1, 5), (2, 6), (3, 7)):
            right = {text: turning for turning in all_turnings(size) for text in ways_to_write(turning)}
            found = 0
            for length in range(longest + 1):
                for signs in product("() 012"[:size + 4], repeat=length):
                    text = "".join(signs)
                    if text in right:
                        found += 1
                        self.assertEqual(read_turning(size, text), right[text])
                    else:
                        self.assert_read_or_refused(size, text, False)
            self.assertEqual(found, len(right))

    def test_one_sign_off(self):
        for size, text in ((1, "()"), (5, "(0 3 1)(2 4)"), (8, "(0 7)(1 6)(2 5)"), (8, "(0 1 2 3 4 5 6)")):
            for other in one_sign_off(text):
                self.assert_read_or_refused(size, other, is_right(size, other))

    def assert_read_or_refused(self, size, text, right):
        try:
            read_turning(size, text)
        except BadText:
            self.assertFalse(right, text)
        else:
            self.assertTrue(right, text)


if __name__ == "__main__":
    unittest.main()
