"""The least moment at which two rests differ."""

import itertools
import unittest

from support import Case

from surelet.errors import TooMany
from surelet.rests import Days, Later, Next, Sooner, Window, parted

RESTS = [
    Window(1),
    Window(5),
    Days([], 1),
    Days([], 5),
    Days([5], 5),
    Days([5, 10], 5),
    Days([3], 5),
    Days([20], 4),
    Days([20, 21], 4),
    Days([], 20),
    Later(Window(5), Days([], 4)),
    Sooner(Window(5), Days([30], 6)),
    Next(Window(5), Days([], 4)),
    Next(Days([], 4), Window(5)),
    Later(Sooner(Window(9), Days([2], 3)), Window(2)),
]


class Parted(Case):
    def check_both(self, one, other, wanted):
        self.check_same(parted(one, other), wanted)
        self.check_same(parted(other, one), wanted)
        self.check_same(parted(other=other, rest=one), wanted)

    def test_equal_rests(self):
        for rest in RESTS + [Days(list(range(989, 1001)), 2000), Days([], 1999)]:
            self.check_both(rest, rest, None)

    def test_equal_values_under_unlike_texts(self):
        for one, other in [
            (Window(1), Days([], 1)),
            (Days([], 5), Days([5], 5)),
            (Days([5], 5), Days([5, 10, 15], 5)),
            (Later(Window(2), Window(7)), Window(7)),
            (Sooner(Window(2), Window(7)), Window(2)),
            (Next(Window(2), Window(7)), Window(9)),
            (Next(Window(2), Window(7)), Next(Window(7), Window(2))),
            (Later(Days([], 4), Window(4)), Window(4)),
        ]:
            self.assertNotEqual(str(one), str(other))
            self.check_both(one, other, None)

    def test_against_each_moment(self):
        for one, other in itertools.product(RESTS, RESTS):
            differing = [t for t in range(300) if one(t) != other(t)]
            self.check_both(one, other, differing[0] if differing else None)

    def test_ahead_of_the_bend(self):
        self.check_both(Days([4, 8], 4), Days([4, 7, 8], 4), 4)
        self.check_both(Days([10], 3), Days([9, 10], 3), 0)
        self.check_both(Window(1), Window(2), 0)
        self.check_both(Days([500, 1000], 7), Days([500, 999, 1000], 7), 500)

    def test_at_the_bend(self):
        self.check_both(Days([4, 8], 4), Days([4, 8], 5), 8)
        self.check_both(Days([999, 1000], 3), Days([999, 1000], 2), 1000)
        self.check_both(Days([], 3), Days([], 2), 0)

    def test_far_behind_the_bend(self):
        self.check_both(Days([4], 4), Days([4, 8, 12], 4), None)
        self.check_both(Days([4], 4), Days([4, 8, 12], 5), 12)
        # Days that are joined by sooner have the borders of both.
        few = Days([2, 5], 3)
        self.check_both(Sooner(Days([2, 3], 6), few), Sooner(Days([3, 5], 3), few), 8)
        far = Days([999, 1000], 1000)
        self.check_both(Sooner(Days([999], 2000), far), far, 2000)

    def test_at_the_last_moment_that_counts(self):
        for period in (2, 7, 2000):
            days = Days([], period)
            self.check_both(Next(Window(1), days), days, period - 1)

    def test_a_great_common_period(self):
        for one, other, count in [
            (Days([], 667), Days([], 3), 2001),
            (Days([], 2000), Days([], 1999), 2000 * 1999),
            (Later(Window(1), Days([], 45)), Days([3], 46), 2070),
        ]:
            self.check_error(TooMany, ["period", count], parted, one, other)
            self.check_error(TooMany, ["period", count], parted, other, one)
        for one, other in [(Days([], 16), Days([], 125)), (Days([], 2000), Days([], 1000))]:
            self.check_both(one, other, 0)


if __name__ == "__main__":
    unittest.main()
