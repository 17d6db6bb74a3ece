"""Rules against one another."""

import itertools
import unittest

from support import Case

from surelet.errors import TooMany
from surelet.rests import Days, Later, Next, Sooner, Window
from surelet.rules import Rule, breach, is_within

RESTS = [
    Window(1),
    Window(3),
    Window(10),
    Days([], 4),
    Days([3, 20], 5),
    Days([6], 4),
    Later(Window(3), Days([], 4)),
    Sooner(Window(10), Days([8], 6)),
    Next(Window(1), Days([], 4)),
]


def breach_by_hand(rule, other):
    """The list of the document, over far more moments than are needed."""
    for start in range(150):
        moments = []
        moment = start
        while moment < other.rest(start):
            moments.append(moment)
            moment = rule.rest(moment)
        if len(moments) * rule.chips > other.chips:
            return [(moment, rule.chips) for moment in moments]
    return None


class Breach(Case):
    def check_breach(self, rule, other, wanted):
        self.check_same(breach(rule, other), wanted)
        self.check_same(breach(other=other, rule=rule), wanted)
        if wanted is not None:
            self.assertTrue(is_within(rule, wanted))
            self.assertFalse(is_within(other, wanted))

    def check_chips(self, rest, longer, moments):
        """With one chip fewer than just enough, the other rule is broken at these moments."""
        for many in (2, 3, 7):
            rule = Rule("a", many, rest)
            enough = many * len(moments)
            uses = [(moment, many) for moment in moments]
            self.check_breach(rule, Rule("b", enough - 1, longer), uses)
            self.check_breach(rule, Rule("b", enough, longer), None)
            self.check_breach(rule, Rule("b", enough + 1, longer), None)

    def test_windows(self):
        self.check_chips(Window(4), Window(4), [0])
        self.check_chips(Window(4), Window(3), [0])
        self.check_chips(Window(4), Window(5), [0, 4])
        self.check_chips(Window(4), Window(12), [0, 4, 8])
        self.check_chips(Window(4), Window(13), [0, 4, 8, 12])

    def test_days(self):
        self.check_chips(Days([], 7), Days([5], 10), [5, 7, 14])
        self.check_chips(Days([], 4), Days([], 12), [0, 4, 8])
        self.check_chips(Days([], 4), Window(12), [1, 4, 8, 12])
        self.check_chips(Window(4), Days([], 12), [0, 4, 8])

    def test_a_first_failing_moment_at_0(self):
        self.check_breach(Rule("a", 2, Window(4)), Rule("b", 5, Window(12)), [(0, 2), (4, 2), (8, 2)])
        self.check_breach(Rule("a", 3, Window(4)), Rule("b", 2, Window(1)), [(0, 3)])
        self.check_breach(Rule("a", 1, Days([2], 3)), Rule("b", 2, Days([6], 3)), [(0, 1), (2, 1), (5, 1)])

    def test_ahead_of_the_bend(self):
        self.check_breach(
            Rule("a", 1, Window(4)), Rule("b", 4, Days([3, 20], 5)), [(3, 1), (7, 1), (11, 1), (15, 1), (19, 1)]
        )
        self.check_breach(Rule("a", 2, Days([2, 4, 30], 50)), Rule("b", 2, Days([2, 6, 7], 3)), [(2, 2), (4, 2)])

    def test_at_the_bend_and_behind_it(self):
        self.check_breach(Rule("a", 1, Window(4)), Rule("b", 4, Days([3, 5], 20)),
                          [(moment, 1) for moment in (5, 9, 13, 17, 21)])
        self.check_breach(Rule("a", 1, Days([1], 7)), Rule("b", 1, Days([1], 5)), [(6, 1), (8, 1)])
        self.check_breach(Rule("a", 4, Days([100], 70)), Rule("b", 7, Days([100], 50)), [(150, 4), (170, 4)])

    def test_far_behind_the_bend(self):
        # The last moment of the period is the only one at which the other rule is too long.
        self.check_breach(Rule("a", 1, Days([], 2000)), Rule("b", 1, Next(Window(1), Days([], 2000))),
                          [(1999, 1), (2000, 1)])
        self.check_breach(Rule("a", 1, Days([], 1000)), Rule("b", 1, Sooner(Days([], 2000), Window(1))), None)
        # The borders are 999, 1000, 2999, 3000, 4999 and so on against 999, 1000, 2000, 3000.
        few = Sooner(Days([999], 2000), Days([999, 1000], 2000))
        self.check_breach(Rule("a", 1, Days([999, 1000], 1000)), Rule("b", 1, few), [(1000, 1), (2000, 1)])
        self.check_breach(Rule("a", 1, few), Rule("b", 1, Days([999, 1000], 1000)), [(2000, 1), (2999, 1)])

    def test_against_each_moment(self):
        for a, b in itertools.product(RESTS, RESTS):
            for chips, more in [(1, 1), (1, 2), (1, 5), (2, 5), (3, 5), (3, 6), (5, 2), (4, 20)]:
                rule, other = Rule("a", chips, a), Rule("b", more, b)
                self.check_breach(rule, other, breach_by_hand(rule, other))

    def test_a_rule_that_is_kept_lets_no_list_by(self):
        lists = [[(t, n) for t, n in enumerate(ns) if n] for ns in itertools.product((0, 1, 2), repeat=6)]
        kept = 0
        for a, b in itertools.product([Window(2), Days([], 3), Days([1, 4], 2)], [Window(3), Days([2], 3), Window(4)]):
            for chips, more in [(1, 1), (1, 2), (1, 3), (2, 3), (2, 4)]:
                rule, other = Rule("a", chips, a), Rule("b", more, b)
                if breach(rule, other) is None:
                    kept += 1
                    for uses in lists:
                        self.assertTrue(is_within(other, uses) or not is_within(rule, uses), (str(rule), str(other), uses))
        self.assertGreater(kept, 10)

    def test_all_moments_are_in_the_list(self):
        self.check_breach(Rule("a", 1, Window(1)), Rule("b", 1, Window(1000)), [(moment, 1) for moment in range(1000)])
        self.check_breach(Rule("a", 1000, Window(1)), Rule("b", 999, Window(3)), [(0, 1000), (1, 1000), (2, 1000)])

    def test_the_greatest_numbers(self):
        self.check_breach(Rule("a", 1, Window(1)), Rule("b", 1000, Window(1000)), None)
        self.check_breach(Rule("a", 1, Window(1)), Rule("b", 999, Window(1000)), [(moment, 1) for moment in range(1000)])
        self.check_breach(Rule("a", 1000, Days([], 2000)), Rule("b", 1000, Days([], 2000)), None)

    def test_the_names_do_not_matter(self):
        for name in ("a", "b"):
            self.check_breach(Rule("a", 1, Window(4)), Rule(name, 1, Window(4)), None)

    def test_a_great_common_period(self):
        for one, other, count in [
            (Days([], 667), Days([], 3), 2001),
            (Days([], 1999), Days([], 2000), 1999 * 2000),
            (Later(Window(1), Days([], 45)), Days([3], 46), 2070),
        ]:
            for rest, longer in ((one, other), (other, one)):
                self.check_error(TooMany, ["period", count], breach, Rule("a", 1000, rest), Rule("b", 1, longer))
                self.check_error(TooMany, ["period", count], breach, Rule("a", 1, rest), Rule("b", 1000, longer))
        self.check_breach(Rule("a", 1, Days([], 16)), Rule("b", 126, Days([], 125)), None)


if __name__ == "__main__":
    unittest.main()
