"""Rests that are read from their texts."""

import math
import re
import string
import unittest

from support import NOT_NUMBERS, Case

from surelet.errors import InvalidText
from surelet.rests import Days, Later, Next, Sooner, Window
from surelet.resttexts import read_rest

RESTS = [
    Window(1),
    Window(40),
    Window(1000),
    Days([], 5),
    Days([], 2000),
    Days([3], 1),
    Days([3, 7], 5),
    Days([9, 10, 1000], 12),
    Days(list(range(989, 1001)), 2000),
    Later(Window(4), Days([3, 7], 5)),
    Sooner(Days([], 8), Days([10], 6)),
    Next(Window(4), Window(4)),
    Next(Later(Window(4), Days([3, 7], 5)), Window(9)),
    Sooner(Window(4), Later(Window(5), Window(6))),
    Later(Next(Days([], 16), Window(7)), Days([1, 2], 125)),
]
TEXTS = [rest.written() for rest in RESTS]
SIGNS = " ,()-+_.01259adehlnorstwxyA"


def numbers_of(text):
    """The forms and the period of a valid text, None for any other one; by another way than the program."""
    found = re.fullmatch("window ([1-9][0-9]{0,8})", text)
    if found:
        return (1, 1) if int(found[1]) <= 1000 else None
    found = re.fullmatch("days ((?:[1-9][0-9]{0,8} )*)then ([1-9][0-9]{0,8})", text)
    if found:
        borders = [int(word) for word in found[1].split()]
        fits = len(borders) <= 12 and borders == sorted(set(borders)) and all(border <= 1000 for border in borders)
        return (1, int(found[2])) if fits and int(found[2]) <= 2000 else None
    found = re.fullmatch(r"(?:later|sooner|next)\((.*)\)", text)
    for comma in re.finditer(", ", found[1]) if found else []:
        first, second = numbers_of(found[1][: comma.start()]), numbers_of(found[1][comma.end():])
        if first and second:
            forms, period = 1 + first[0] + second[0], math.lcm(first[1], second[1])
            return (forms, period) if forms <= 6 and period <= 2000 else None
    return None


class Reading(Case):
    def check_refused(self, text):
        self.check_error(InvalidText, [text], read_rest, text)

    def check_text(self, text):
        """The text is read if it is one, and refused otherwise."""
        if numbers_of(text) is None:
            self.check_refused(text)
        else:
            self.assertEqual(read_rest(text).written(), text)

    def test_each_form(self):
        for rest, text in zip(RESTS, TEXTS):
            found = read_rest(text)
            self.assertEqual(found, rest)
            self.assertIs(type(found), type(rest))
            self.assertEqual((found.written(), str(found)), (text, text))
            self.assertEqual((found.forms(), found.period()), numbers_of(text))
            self.assertEqual((found.forms(), found.bend()), (rest.forms(), rest.bend()))
            self.assertEqual([found(t) for t in range(60)], [rest(t) for t in range(60)])
        self.assertEqual(read_rest(text="window 5"), Window(5))

    def test_the_parts_of_what_is_read(self):
        self.check_same(read_rest("window 40").width, 40)
        days = read_rest("days 3 7 then 5")
        self.check_same((days.borders(), days.every), ([3, 7], 5))
        for word, made in (("later", Later), ("sooner", Sooner), ("next", Next)):
            pair = read_rest(f"{word}(window 1, days then 2)")
            self.assertIsInstance(pair, made)
            self.assertEqual((pair.first, pair.second), (Window(1), Days([], 2)))

    def test_a_sign_taken_out_or_doubled(self):
        for text in TEXTS:
            for at in range(len(text)):
                self.check_text(text[:at] + text[at + 1:])
                self.check_text(text[: at + 1] + text[at:])

    def test_a_sign_put_in_or_replaced(self):
        for text in TEXTS[1:8:3] + TEXTS[9:13]:
            for at in range(len(text) + 1):
                for sign in SIGNS:
                    self.check_text(text[:at] + sign + text[at:])
                    self.check_text(text[:at] + sign + text[at + 1:])

    def test_two_signs_exchanged_and_parts_cut_out(self):
        for text in TEXTS:
            for at in range(len(text) - 1):
                self.check_text(text[:at] + text[at + 1] + text[at] + text[at + 2:])
                for end in range(at + 2, len(text) + 1):
                    self.check_text(text[:at] + text[end:])

    def test_spaces(self):
        for text in [
            " window 5",
            "window 5 ",
            "window  5",
            "window5",
            "window\t5",
            "window 5\n",
            "days  then 5",
            "daysthen 5",
            "days 3  7 then 5",
            "days 3 7 then  5",
            "days 3 7then 5",
            "later(window 5,window 6)",
            "later(window 5,  window 6)",
            "later(window 5 , window 6)",
            "later( window 5, window 6)",
            "later (window 5, window 6)",
            "later(window 5, window 6 )",
            " later(window 5, window 6)",
            "later(window 5, window 6) ",
        ]:
            self.check_refused(text)

    def test_zeros_ahead(self):
        for text in [
            "window 05",
            "window 00",
            "window 0005",
            "days 03 7 then 5",
            "days 3 07 then 5",
            "days 3 7 then 05",
            "days then 05",
            "days 0 3 then 5",
            "next(window 05, window 6)",
            "next(window 5, window 06)",
        ]:
            self.check_refused(text)
        self.assertEqual(read_rest("days 10 100 then 1000").written(), "days 10 100 then 1000")

    def test_numbers_at_and_beyond_their_bounds(self):
        for form, most in [("window {}", 1000), ("days {} then 5", 1000), ("days then {}", 2000)]:
            for number in (1, 2, most - 1, most):
                self.assertEqual(read_rest(form.format(number)).written(), form.format(number))
            for number in (0, -1, most + 1, 999999999, 10**30, "9" * 380, "9" * 6000):
                self.check_refused(form.format(number))

    def test_words_that_are_no_numbers(self):
        for word in ["", "x", "+5", "-5", "5_0", "5.0", "0x5", "1e2", "five", "\u0665", "\u00b2", "5 6", "None", "True"]:
            for form in ("window {}", "days {} then 5", "days then {}", "later(window {}, window 1)"):
                self.check_text(form.format(word))

    def test_borders_do_not_fall_and_are_at_most_twelve(self):
        for text in ["days 3 3 then 5", "days 7 3 then 5", "days 1 2 3 2 then 5"]:
            self.check_refused(text)
        for many in (12, 13, 14, 90):
            self.check_text("days " + " ".join(str(border) for border in range(1, many + 1)) + " then 5")
        self.assertEqual(read_rest("days 1 2 3 4 5 6 7 8 9 10 11 12 then 5").bend(), 12)
        self.check_refused("days 1 2 3 4 5 6 7 8 9 10 11 12 13 then 5")

    def test_forms(self):
        three = "later(window 1, window 2)"
        five = f"next({three}, window 3)"
        self.assertEqual((read_rest(three).forms(), read_rest(five).forms()), (3, 5))
        for text in [f"sooner({three}, {three})", f"sooner({five}, window 1)", f"sooner({five}, {five})"]:
            self.check_refused(text)
        self.assertEqual(read_rest(f"sooner(window 4, {three})").forms(), 5)

    def test_common_periods(self):
        for word in ("later", "sooner", "next"):
            self.assertEqual(read_rest(f"{word}(days then 16, days 4 then 125)").period(), 2000)
            self.check_refused(f"{word}(days then 667, days then 3)")
            self.check_refused(f"{word}(days then 1999, days then 2000)")
        self.check_refused("later(days then 29, next(days then 3, days then 23))")

    def test_words_alone_and_the_empty_text(self):
        for text in [
            "", " ", ",", ", ", "(", ")", "()", "(, )", "window", "window ", "days", "days ", "days then", "days then ",
            "then", "then 5", "days 5", "days 3 7 5", "later", "sooner", "next", "later(", "later)", "later()",
            "later(, )", "later(window 5)", "later(window 5, )", "later(, window 5)", "(window 5)", "(window 5, window 5)",
            "later(window 5, window 6, window 7)", "later(window 5, window 6))", "later((window 5, window 6)",
            "later(window 5, window 6)later", "later(window 5, window 6)window 5", "window 5window 5", "window 5, window 5",
            "Window 5", "windows 5", "day then 5", "days then 5 then 5", "days then then 5", "days 3 then then 5",
            "earlier(window 5, window 6)", "later[window 5, window 6]", "later(window 5; window 6)", "window window 5",
            "rest window 5", "Rest(window 5)", "window 5 5", "days 3 7 Then 5", "next(window 5, next(window 5)",
        ]:
            self.check_refused(text)

    def test_many_brackets(self):
        deep = "window 1"
        for _ in range(2000):
            deep = f"later({deep}, window 1)"
        self.check_refused(deep)
        right = "window 1"
        for _ in range(2000):
            right = f"later(window 1, {right})"
        self.check_refused(right)
        for text in [
            "(" * 400, ")" * 400, "later(" * 400, "later(" * 66, "later(" * 50 + ")" * 50, "(" * 200 + ")" * 200,
            "later(" * 20 + "window 1" + ", window 1)" * 20, "later(window 1, " * 20 + "window 1" + ")" * 20,
            "later(" * 10 + ", )" * 10, "next((((((((window 1, window 2))))))))", "later(window 1, " * 25,
            "(" * 100000, "later(" * 100000 + ")" * 100000, "window 1, " * 40, "()" * 200, "later(((((" + ", " * 100 + ")))))",
        ]:
            self.check_refused(text)

    def test_values_of_other_kinds(self):
        for value in NOT_NUMBERS + [5, 0, b"window 5", ("window 5",), ["window 5"], {"window 5": 1}]:
            if value != "window 5" or not isinstance(value, str):
                self.check_refused(value)
                self.check_error(InvalidText, [value], read_rest, text=value)

    def test_the_check_of_these_tests_knows_the_texts(self):
        self.assertTrue(all(numbers_of(text) for text in TEXTS))
        self.assertFalse(any(numbers_of(sign) for sign in string.printable))


if __name__ == "__main__":
    unittest.main()
