"""Numbers and names."""

import string
import unittest

from support import BOOLEANS, OTHERS, Case

from surelet.words import is_name, is_number


class Numbers(Case):
    def test_at_inside_and_next_to_the_bounds(self):
        for least, most in [(1, 1000), (0, 0), (-5, 5), (-9, -3), (0, 999999999)]:
            for value, wanted in [
                (least - 1, False),
                (least, True),
                ((least + most) // 2, True),
                (most, True),
                (most + 1, False),
            ]:
                self.check_same(is_number(value, least, most), wanted)

    def test_a_least_above_the_most(self):
        for value in (0, 1, 2, 3):
            self.check_same(is_number(value, 2, 1), False)

    def test_booleans_and_other_values_are_none(self):
        for value in BOOLEANS + OTHERS:
            self.check_same(is_number(value, -1000, 1000), False)
        for value in (0, 1):
            self.check_same(is_number(value, 0, 1), True)

    def test_by_name(self):
        self.check_same(is_number(most=3, least=2, value=3), True)
        self.check_same(is_number(3, most=2, least=1), False)
        self.check_same(is_number(1, 2, most=3), False)


class Names(Case):
    def test_from_one_to_eight_signs(self):
        for text, wanted in [
            ("", False),
            ("a", True),
            ("ab", True),
            ("abcdefg8", True),
            ("abcdefgh", True),
            ("abcdefghi", False),
            ("a23456789", False),
            ("a" * 400, False),
        ]:
            self.check_same(is_name(text), wanted)

    def test_every_sign_in_every_position(self):
        for code in range(32, 127):
            sign = chr(code)
            letter = sign in string.ascii_lowercase
            digit = sign in string.digits
            self.check_same(is_name(sign), letter)
            self.check_same(is_name(sign + "b1"), letter)
            self.check_same(is_name("b" + sign + "1"), letter or digit)
            self.check_same(is_name("b1" + sign), letter or digit)
            self.check_same(is_name("b123456" + sign), letter or digit)

    def test_other_signs(self):
        for text in ("\n", "a\n", "\ta", "a b", "\u00e9", "a\u00e9", "a\u0661", "\u00aa", "a\u00b2", "a\x00"):
            self.check_same(is_name(text), False)

    def test_other_kinds(self):
        for value in BOOLEANS + [value for value in OTHERS if value != "a"] + [0, 7, b"a", ("a",), ["b"]]:
            self.check_same(is_name(value), False)

    def test_by_name(self):
        self.check_same(is_name(value="b0"), True)
        self.check_same(is_name(value="0b"), False)


if __name__ == "__main__":
    unittest.main()
