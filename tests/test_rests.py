"""The forms of rests: their moments, texts and numbers, and how they are built."""

import inspect
import itertools
import unittest

from support import NOT_NUMBERS, OTHERS, Case

from surelet.errors import InvalidBorders, InvalidNumber, InvalidRest, TooMany
from surelet.rests import Days, Later, Next, Rest, Sooner, Window

TWELVE = [1, 2, 3, 10, 50, 99, 100, 101, 500, 998, 999, 1000]
FAR = [99990 + step for step in range(21)]


def days_by_hand(borders, every):
    """The least border above a moment, found border by border."""

    def after(t):
        border = 0
        for border in borders:
            if border > t:
                return border
        while border <= t:
            border += every
        return border

    return after


PLAIN = [
    (Window(1), lambda t: t + 1, "window 1", 1, 0),
    (Window(5), lambda t: t + 5, "window 5", 1, 0),
    (Window(1000), lambda t: t + 1000, "window 1000", 1, 0),
    (Days([3, 7], 5), days_by_hand([3, 7], 5), "days 3 7 then 5", 5, 7),
    (Days([], 5), days_by_hand([], 5), "days then 5", 5, 0),
    (Days([], 1), days_by_hand([], 1), "days then 1", 1, 0),
    (Days([], 2000), days_by_hand([], 2000), "days then 2000", 2000, 0),
    (Days([1], 4), days_by_hand([1], 4), "days 1 then 4", 4, 1),
    (Days([20, 21], 6), days_by_hand([20, 21], 6), "days 20 21 then 6", 6, 21),
    (Days(TWELVE, 7), days_by_hand(TWELVE, 7), "days 1 2 3 10 50 99 100 101 500 998 999 1000 then 7", 7, 1000),
]
FEW = [PLAIN[1], PLAIN[3], PLAIN[4], PLAIN[8]]


def least_multiple(one, other):
    return next(n for n in itertools.count(1) if n % one == 0 and n % other == 0)


def joined(first, second):
    """The three joins of two samples."""
    (a, a_at, a_text, a_period, a_bend), (b, b_at, b_text, b_period, b_bend) = first, second
    numbers = (least_multiple(a_period, b_period), max(a_bend, b_bend))
    text = f"({a_text}, {b_text})"
    return [
        (Later(a, b), lambda t: max(a_at(t), b_at(t)), "later" + text, *numbers),
        (Sooner(a, b), lambda t: min(a_at(t), b_at(t)), "sooner" + text, *numbers),
        (Next(a, b), lambda t: b_at(a_at(t)), "next" + text, *numbers),
    ]


PAIRS = [sample for a in FEW for b in FEW for sample in joined(a, b)]
DEEP = [sample for pair in PAIRS[::5] for b in FEW[:2] for sample in joined(pair, b) + joined(b, pair)]
SAMPLES = PLAIN + PAIRS + DEEP


class Moments(Case):
    def test_each_form_at_near_and_far_moments(self):
        for rest, by_hand, text, _, _ in SAMPLES:
            for t in list(range(45)) + FAR:
                self.assertEqual(rest(t), by_hand(t), (text, t))

    def test_next_to_each_border(self):
        for rest, by_hand, text, _, _ in PLAIN:
            for t in [border + step for border in TWELVE for step in (-1, 0, 1)] + [1999, 2000, 2001, 3999, 4000]:
                self.assertEqual(rest(t), by_hand(t), (text, t))

    def test_the_examples_of_the_document(self):
        self.assertEqual(list(Days([3, 7], 5).steps(0, 23)), [0, 3, 7, 12, 17, 22])
        self.assertEqual(list(Days([], 5).steps(0, 16)), [0, 5, 10, 15])
        self.assertEqual([Days([3, 7], 5)(t) for t in (0, 2, 3, 6, 7, 11, 12)], [3, 3, 7, 7, 12, 12, 17])
        self.assertEqual([Window(4)(t) for t in (0, 1, 100000)], [4, 5, 100004])
        a, b = Window(4), Days([], 10)
        self.assertEqual([Later(a, b)(t) for t in (0, 5, 6, 7)], [10, 10, 10, 11])
        self.assertEqual([Sooner(a, b)(t) for t in (0, 5, 6, 7)], [4, 9, 10, 10])
        self.assertEqual([Next(a, b)(t) for t in (0, 5, 6, 7)], [10, 10, 20, 20])
        self.assertEqual([Next(b, a)(t) for t in (0, 5, 9, 10)], [14, 14, 14, 24])

    def test_above_the_moment_and_never_falling(self):
        for rest, _, text, _, _ in SAMPLES:
            for t in list(range(60)) + FAR:
                self.assertGreater(rest(t), t, text)
                self.assertGreaterEqual(rest(t + 1), rest(t), text)

    def test_it_repeats_itself_from_its_bend_on(self):
        for rest, _, text, _, _ in SAMPLES:
            bend, period = rest.bend(), rest.period()
            for t in list(range(bend, bend + 40)) + [bend + period - 1, bend + period]:
                self.assertEqual(rest(t + period), rest(t) + period, (text, t))

    def test_by_name(self):
        self.assertEqual(Window(width=5)(t=2), 7)
        self.assertEqual(Days(every=5, borders=[3])(t=2), 3)
        self.assertEqual(Days([3], every=5)(t=3), 8)
        for made in (Later, Sooner, Next):
            for rest in (made(second=Days([], 5), first=Window(2)), made(Window(2), second=Days([], 5))):
                self.assertEqual(rest, made(Window(2), Days([], 5)))
                self.assertEqual(rest(t=4), made(Window(2), Days([], 5))(4))


class Numbers(Case):
    def test_forms_period_and_bend(self):
        for rest, _, text, period, bend in SAMPLES:
            self.check_same(rest.forms(), 2 * text.count(",") + 1)
            self.check_same(rest.period(), period)
            self.check_same(rest.bend(), bend)

    def test_one_rest_several_times(self):
        days = Days([4], 6)
        pair = Later(days, days)
        self.assertEqual((pair.forms(), pair.period(), pair.bend()), (3, 6, 4))
        self.assertEqual(Next(pair, days).forms(), 5)

    def test_least_common_multiples(self):
        for one, other, wanted in [(4, 6, 12), (5, 7, 35), (9, 3, 9), (1, 8, 8), (40, 50, 200)]:
            self.assertEqual(Later(Days([], one), Days([], other)).period(), wanted)
            self.assertEqual(Next(Sooner(Window(7), Days([], one)), Days([], other)).period(), wanted)

    def test_written_str_and_repr(self):
        for rest, _, text, _, _ in SAMPLES:
            self.check_same(rest.written(), text)
            self.check_same(str(rest), text)
            self.check_same(repr(rest), f"Rest({text})")

    def test_attributes_and_borders(self):
        self.check_same(Window(7).width, 7)
        self.check_same(Days([3, 7], 5).every, 5)
        self.check_same(Days([3, 7], 5).borders(), [3, 7])
        self.check_same(Days((3, 7), 5).borders(), [3, 7])
        self.check_same(Days((), 5).borders(), [])
        for made in (Later, Sooner, Next):
            first, second = Window(1), Days([2], 3)
            pair = made(first, second)
            self.assertIs(pair.first, first)
            self.assertIs(pair.second, second)
            self.assertIsInstance(pair, Rest)

    def test_borders_are_copied(self):
        borders = [3, 7]
        days = Days(borders, 5)
        borders.append(8)
        borders[0] = 1
        self.assertEqual((days.borders(), days(0), days(7), str(days)), ([3, 7], 3, 12, "days 3 7 then 5"))
        told = days.borders()
        told.clear()
        self.assertEqual((days.borders(), days(0)), ([3, 7], 3))
        self.assertIsNot(days.borders(), days.borders())
        passed = [3, 7]
        Days(passed, 5)
        self.assertEqual(passed, [3, 7])


class Latest(Case):
    def test_against_each_moment(self):
        for rest, _, text, _, _ in SAMPLES:
            values = [rest(t) for t in range(50)]
            for f in range(values[0] - 3, values[40]):
                below = [t for t in range(50) if values[t] <= f]
                self.check_same(rest.latest(f), below[-1] if below else None)

    def test_below_the_first_value_there_is_none(self):
        for rest, _, _, _, _ in SAMPLES:
            for f in (-1, 0, rest(0) - 1):
                self.assertIsNone(rest.latest(f))
            self.assertIsNotNone(rest.latest(rest(0)))

    def test_at_below_and_above_a_value(self):
        for rest, _, text, _, _ in SAMPLES:
            for t in [0, 1, 6, 7, 8, 999, 1000, 1001, 2999, 100000]:
                for f in (rest(t) - 1, rest(t), rest(t) + 1):
                    found = rest.latest(f)
                    if found is None:
                        self.assertLess(f, rest(0))
                    else:
                        self.assertLessEqual(rest(found), f, (text, f))
                        self.assertGreater(rest(found + 1), f, (text, f))
                self.assertGreaterEqual(rest.latest(rest(t)), t)

    def test_great_numbers_at_once(self):
        for f in (999999999, 10**30):
            self.assertEqual(Window(1).latest(f), f - 1)
            self.assertEqual(Window(1000).latest(f), f - 1000)
            self.assertEqual(Days([3, 7], 5).latest(f), f - (f - 7) % 5 - 1)
            for rest, _, text, _, _ in SAMPLES:
                found = rest.latest(f)
                self.assertLessEqual(rest(found), f, text)
                self.assertGreater(rest(found + 1), f, text)

    def test_by_name(self):
        self.assertEqual(Window(3).latest(f=9), 6)


class Steps(Case):
    def test_the_end_at_below_and_above_the_start(self):
        rest = Days([3, 7], 5)
        for t, end, wanted in [
            (2, 2, []),
            (2, 1, []),
            (2, -4, []),
            (2, 3, [2]),
            (2, 4, [2, 3]),
            (0, 7, [0, 3]),
            (0, 8, [0, 3, 7]),
            (99999, 100010, [99999, 100002, 100007]),
        ]:
            self.check_same(list(rest.steps(t, end)), wanted)
            self.check_same(list(rest.steps(end=end, t=t)), wanted)

    def test_each_form(self):
        for rest, by_hand, text, _, _ in SAMPLES:
            for start in (0, 4, 100000):
                wanted = [start]
                while len(wanted) < 4:
                    wanted.append(by_hand(wanted[-1]))
                self.assertEqual(list(rest.steps(start, wanted[3])), wanted[:3], text)
                self.assertEqual(list(rest.steps(start, wanted[3] + 1)), wanted, text)

    def test_it_is_a_generator(self):
        self.assertTrue(inspect.isgeneratorfunction(Rest.steps))
        steps = Window(1).steps(0, 10**30)
        self.assertEqual([next(steps) for _ in range(3)], [0, 1, 2])


class Building(Case):
    def test_windows(self):
        self.assertEqual((Window(1).width, Window(1000).width), (1, 1000))
        for width in [0, -1, 1001, 999999999] + NOT_NUMBERS:
            self.check_error(InvalidNumber, [width], Window, width)
            self.check_error(InvalidNumber, [width], Window, width=width)

    def test_borders_that_are_no_list(self):
        for borders in [value for value in NOT_NUMBERS if not isinstance(value, (list, tuple))] + [5, 0]:
            self.check_error(InvalidBorders, [-1], Days, borders, 5)
            self.check_error(InvalidBorders, [-1], Days, borders, 0)

    def test_counts_of_borders(self):
        for make in (list, tuple):
            for many in (0, 1, 11, 12):
                self.assertEqual(Days(make(range(1, many + 1)), 5).borders(), list(range(1, many + 1)))
            for many in (13, 14, 400):
                self.check_error(TooMany, ["borders", many], Days, make(range(1, many + 1)), 5)
                self.check_error(TooMany, ["borders", many], Days, make([0] * many), None)

    def test_wrong_borders(self):
        for value in [0, -1, 1001] + NOT_NUMBERS:
            for at in (0, 1, 11):
                borders = [100 + step for step in range(12)]
                borders[at] = value
                self.check_error(InvalidBorders, [at], Days, borders, 5)
                self.check_error(InvalidBorders, [at], Days, tuple(borders), 5)
                self.check_error(InvalidBorders, [at], Days, borders, 2001)

    def test_borders_ascend(self):
        for borders, at in [([3, 3], 1), ([3, 2], 1), ([1, 2, 2, 1], 2), ([5, 1000, 999], 2), ([4, 9, 5, 0], 2)]:
            self.check_error(InvalidBorders, [at], Days, borders, 5)
        self.assertEqual(Days([1, 2, 1000], 5).borders(), [1, 2, 1000])

    def test_the_first_wrong_border_counts(self):
        self.check_error(InvalidBorders, [1], Days, [1, True, 0, "a"], 5)
        self.check_error(InvalidBorders, [0], Days, [0, 0], "a")
        self.check_error(InvalidBorders, [1], Days, [1000, 1001], 0)

    def test_periods_of_days(self):
        self.assertEqual((Days([], 1).every, Days([], 2000).every), (1, 2000))
        for every in [0, -1, 2001, 999999999] + NOT_NUMBERS:
            self.check_error(InvalidNumber, [every], Days, [3, 7], every)
            self.check_error(InvalidNumber, [every], Days, borders=(), every=every)

    def test_joins_of_other_values(self):
        for made, value in itertools.product((Later, Sooner, Next), NOT_NUMBERS + [5]):
            if isinstance(value, Rest):
                continue
            self.check_error(InvalidRest, [value], made, value, Window(1))
            self.check_error(InvalidRest, [value], made, Window(1), value)
            self.check_error(InvalidRest, [value], made, value, 17)
            self.check_error(InvalidRest, [value], made, second=17, first=value)
            self.check_error(InvalidRest, [17], made, 17, value)

    def test_forms(self):
        one = Window(2)
        three = Later(one, Days([4], 3))
        five = Next(three, one)
        for made in (Later, Sooner, Next):
            # A join has an odd number of forms, so 5 is the greatest number that there is within 6.
            self.assertEqual(made(three, one).forms(), 5)
            self.assertEqual(made(one, three).forms(), 5)
            self.check_error(TooMany, ["forms", 7], made, three, three)
            self.check_error(TooMany, ["forms", 7], made, five, one)
            self.check_error(TooMany, ["forms", 7], made, one, five)
            self.check_error(TooMany, ["forms", 11], made, five, five)
            self.check_error(InvalidRest, [None], made, five, None)

    def test_common_periods(self):
        for made in (Later, Sooner, Next):
            self.assertEqual(made(Days([], 16), Days([], 125)).period(), 2000)
            self.assertEqual(made(Days([], 2000), Days([], 1000)).period(), 2000)
            self.check_error(TooMany, ["period", 2001], made, Days([], 667), Days([], 3))
            self.check_error(TooMany, ["period", 2001], made, Days([5], 29), Later(Days([], 3), Days([], 23)))
            self.check_error(TooMany, ["period", 1999 * 2000], made, Days([], 1999), Days([], 2000))

    def test_forms_come_ahead_of_the_period(self):
        long, prime = Days([], 2000), Days([], 1999)
        three = Later(long, Window(1))
        self.check_error(TooMany, ["period", 1999 * 2000], Sooner, three, prime)
        self.check_error(TooMany, ["forms", 7], Sooner, Next(three, Window(1)), prime)
        self.check_error(InvalidRest, [3], Sooner, Next(three, Window(1)), 3)


class Equality(Case):
    def test_equal_texts(self):
        for make in (
            lambda: Window(5),
            lambda: Days([3, 7], 5),
            lambda: Days((3, 7), 5),
            lambda: Later(Window(5), Days([], 2)),
            lambda: Next(Sooner(Window(5), Days([], 2)), Window(1)),
        ):
            self.check_same(make() == make(), True)
            self.check_same(make() != make(), False)
        self.check_same(Days((3, 7), 5) == Days([3, 7], 5), True)

    def test_unequal_texts(self):
        for (one, _, a, _, _), (other, _, b, _, _) in itertools.product(SAMPLES[:30], SAMPLES[:30]):
            self.check_same(one == other, a == b)
        # Equal moments do not make equal rests.
        self.check_same(Window(1) == Days([], 1), False)
        self.check_same(Days([5], 5) == Days([], 5), False)
        self.check_same(Later(Window(5), Window(5)) == Window(5), False)

    def test_other_values(self):
        class Lookalike:
            def __eq__(self, other):
                return True

            def written(self):
                return "window 9"

        for value in OTHERS + ["window 9", 9, Lookalike()]:
            if not isinstance(value, Rest):
                self.check_same(Window(9) == value, False)
                self.check_same(Window(9) != value, True)
        self.check_same("window 9" == Window(9), False)


if __name__ == "__main__":
    unittest.main()
