"""Rules, their texts, ladders, and the uses that are within them."""

import itertools
import unittest

from support import NOT_NUMBERS, OTHERS, Case

from surelet.errors import InvalidName, InvalidNumber, InvalidRest, InvalidText
from surelet.rests import Days, Later, Next, Sooner, Window
from surelet.rules import Rule, fullest, is_within, ladder, read_rule
from surelet.words import is_name

NO_NAMES = [value for value in NOT_NUMBERS if not is_name(value)] + [5, "abcdefghi", "0a", "a b", "a-b", "Ab"]
RESTS = [
    Window(4),
    Days([3, 7], 5),
    Days([], 6),
    Later(Window(4), Days([3, 7], 5)),
    Sooner(Window(4), Days([3, 7], 5)),
    Next(Window(2), Days([], 6)),
]


def fullest_by_hand(rest, uses):
    """The pair of the document, moment by moment."""
    best = (0, None)
    for start in sorted({moment for moment, _ in uses}):
        count = sum(n for moment, n in uses if start <= moment < rest(start))
        if count > best[0]:
            best = (count, start)
    return best


class Rules(Case):
    def test_attributes_and_text(self):
        for rest in RESTS:
            rule = Rule("b0", 3, rest)
            self.check_same((rule.name, rule.chips), ("b0", 3))
            self.assertIs(rule.rest, rest)
            self.check_same(str(rule), f"b0 3 {rest.written()}")
        self.check_same(str(Rule("b0", 3, Window(4))), "b0 3 window 4")
        self.check_same(str(Rule(rest=Days([], 5), name="a", chips=1000)), "a 1000 days then 5")
        self.check_same(str(Rule("abcdefg8", chips=1, rest=Window(4))), "abcdefg8 1 window 4")

    def test_names(self):
        for name in NO_NAMES:
            self.check_error(InvalidName, [name], Rule, name, 3, Window(4))
            self.check_error(InvalidName, [name], Rule, rest=Window(4), chips=3, name=name)

    def test_chips(self):
        for chips in (1, 2, 999, 1000):
            self.check_same(Rule("b0", chips, Window(4)).chips, chips)
        for chips in NOT_NUMBERS + [0, -1, 1001, 999999999]:
            self.check_error(InvalidNumber, [chips], Rule, "b0", chips, Window(4))

    def test_rests(self):
        for rest in [value for value in NOT_NUMBERS if not isinstance(value, (Window, Days))] + [4, Rule("a", 1, RESTS[0])]:
            self.check_error(InvalidRest, [rest], Rule, "b0", 3, rest)

    def test_the_first_listed_error(self):
        self.check_error(InvalidName, [True], Rule, True, 0, None)
        self.check_error(InvalidName, ["B"], Rule, "B", 0, Window(4))
        self.check_error(InvalidName, ["B"], Rule, "B", 3, "window 4")
        self.check_error(InvalidNumber, [0], Rule, "b", 0, "window 4")
        self.check_error(InvalidNumber, [True], Rule, "b", True, None)

    def test_equality(self):
        rules = [Rule(name, chips, rest) for name in ("a", "b") for chips in (1, 2) for rest in RESTS]
        again = [Rule(name, chips, rest) for name in ("a", "b") for chips in (1, 2) for rest in RESTS]
        for (at, one), (place, other) in itertools.product(enumerate(rules), enumerate(again)):
            self.check_same(one == other, at == place)
            self.check_same(one != other, at != place)
        self.check_same(Rule("a", 1, Days([3], 5)) == Rule("a", 1, Days((3,), 5)), True)

    def test_it_equals_nothing_of_another_class(self):
        class Lookalike:
            name, chips, rest = "a", 1, Window(4)

            def __eq__(self, other):
                return True

        for value in OTHERS + ["a 1 window 4", ("a", 1, Window(4)), Window(4), Lookalike()]:
            self.check_same(Rule("a", 1, Window(4)) == value, False)


class Texts(Case):
    def test_what_is_written_is_read(self):
        for name, chips, rest in itertools.product(("a", "b0", "abcdefg8"), (1, 30, 1000), RESTS):
            rule = Rule(name, chips, rest)
            found = read_rule(str(rule))
            self.assertEqual(found, rule)
            self.assertIs(type(found), Rule)
            self.check_same(str(found), str(rule))
        self.assertEqual(read_rule(text="b0 3 window 4"), Rule("b0", 3, Window(4)))

    def test_changed_texts(self):
        for text in ["b0 3 window 4", "b 10 days 3 7 then 5", "abcdefg8 1000 next(window 4, days then 6)"]:
            for at in range(len(text) + 1):
                for sign in " 0159abwA_-(,":
                    self.check_text(text[:at] + sign + text[at:])
                    self.check_text(text[:at] + sign + text[at + 1:])
                self.check_text(text[:at] + text[at + 1:])
                self.check_text(text[:at] + text[at:at + 1] + text[at:])

    def check_text(self, text):
        """What is read has this very text, or the text is refused with itself as the value."""
        try:
            found = read_rule(text)
        except InvalidText:
            self.check_error(InvalidText, [text], read_rule, text)
            return
        self.check_same(str(found), text)
        name, chips, rest = text.split(" ", 2)
        self.assertRegex(name, "^[a-z][a-z0-9]{0,7}$")
        self.assertRegex(chips, "^[1-9][0-9]{0,3}$")
        self.assertEqual((found.name, found.chips, found.rest.written()), (name, int(chips), rest))

    def test_wrong_texts(self):
        for text in [
            "", " ", "b0", "b0 ", "b0 3", "b0 3 ", "b0 window 4", "3 window 4", "window 4", " b0 3 window 4",
            "b0 3 window 4 ", "b0  3 window 4", "b0 3  window 4", "b0 3 window  4", "b0 03 window 4", "b0 0 window 4",
            "b0 1001 window 4", "b0 -3 window 4", "b0 +3 window 4", "b0 3 window 04", "b0 3 window 0", "b0 3 window 1001",
            "b0 3 window", "B0 3 window 4", "0b 3 window 4", "abcdefghi 3 window 4", "b_0 3 window 4", "b0 x window 4",
            "b0 3 4 window 4", "b0 b0 3 window 4", "b0 3\nwindow 4", "b0,3,window 4", "b0 3 later(window 4)",
            "b0 3 later(window 4,window 5)", "b0 3 days then 2001", "b0 3 later(days then 667, days then 3)",
            "b0 3 days 1 2 3 4 5 6 7 8 9 10 11 12 13 then 5", "b0 3 " + "(" * 390, "b0 3 " + "later(" * 60,
            "b0 " + "9" * 6000 + " window 4", "b0 3 later(later(window 1, window 1), later(window 1, window 1))",
            "b0 \u0663 window 4",
        ]:
            self.check_error(InvalidText, [text], read_rule, text)

    def test_other_values(self):
        for value in NOT_NUMBERS + [5, b"b0 3 window 4", ("b0", 3, Window(4))]:
            self.check_error(InvalidText, [value], read_rule, value)
            self.check_error(InvalidText, [value], read_rule, text=value)


class Ladders(Case):
    def test_the_example(self):
        rules = ladder("b", 3, 4, 3)
        self.assertIs(type(rules), list)
        self.assertEqual([str(rule) for rule in rules], ["b0 3 window 4", "b1 4 window 8", "b2 5 window 12"])
        uses, answers = [], []
        for moment in (0, 0, 0, 0, 4, 5, 8):
            more = uses + [(moment, 1)]
            answers.append(all(is_within(rule, more) for rule in rules))
            uses = more if answers[-1] else uses
        self.assertEqual(answers, [True, True, True, False, True, False, True])

    def test_it_does_what_the_bucket_does(self):
        for size, every, steps in itertools.product((1, 2, 3), (1, 2, 4), (1, 2, 5)):
            rules = ladder("b", size, every, steps)
            for gaps in itertools.product((0, 1, 3), repeat=4):
                moments = list(itertools.accumulate(gaps))
                if moments[-1] - moments[0] >= steps * every:
                    continue
                uses, due = [], 0
                for moment in moments:
                    allowed = all(is_within(rule, uses + [(moment, 1)]) for rule in rules)
                    self.assertEqual(allowed, due <= moment + (size - 1) * every)
                    if allowed:
                        uses.append((moment, 1))
                        due = max(due, moment) + every

    def test_names_chips_and_rests(self):
        for name, size, every, steps in [("a", 1, 1, 1), ("abcdefg", 992, 111, 9), ("a2", 1000, 1000, 1), ("b", 1, 500, 2)]:
            for rules in (ladder(name, size, every, steps), ladder(steps=steps, every=every, size=size, name=name)):
                self.assertEqual(len(rules), steps)
                for k, rule in enumerate(rules):
                    self.check_same((rule.name, rule.chips), (name + str(k), size + k))
                    self.assertEqual(rule.rest, Window((k + 1) * every))

    def test_wrong_names(self):
        for name in NO_NAMES + ["abcdefgh", "abcdefg8"]:
            self.check_error(InvalidName, [name], ladder, name, 3, 4, 3)
        self.assertEqual(ladder("abcdef7", 3, 4, 2)[1].name, "abcdef71")

    def test_wrong_numbers(self):
        for value in NOT_NUMBERS + [0, -1, 1001, 999999999]:
            self.check_error(InvalidNumber, [value], ladder, "b", value, 4, 3)
            self.check_error(InvalidNumber, [value], ladder, "b", 3, value, 3)
            self.check_error(InvalidNumber, [value], ladder, "b", 3, 4, value)
        self.check_error(InvalidNumber, [10], ladder, "b", 3, 4, 10)
        self.assertEqual(len(ladder("b", 3, 4, 9)), 9)

    def test_steps_that_lead_too_far(self):
        for size, every, steps in [(1000, 1, 1), (999, 1, 2), (992, 1, 9), (1, 1000, 1), (1, 333, 3), (1, 111, 9)]:
            self.assertEqual(len(ladder("b", size, every, steps)), steps)
        for size, every, steps in [(1000, 1, 2), (999, 1, 3), (993, 1, 9), (1, 1000, 2), (1, 334, 3), (1, 112, 9)]:
            self.check_error(InvalidNumber, [steps], ladder, "b", size, every, steps)

    def test_the_first_listed_error(self):
        self.check_error(InvalidName, [None], ladder, None, 0, 0, 0)
        self.check_error(InvalidName, ["abcdefgh"], ladder, "abcdefgh", 3, 4, 10)
        self.check_error(InvalidNumber, [0], ladder, "b", 0, 1001, 10)
        self.check_error(InvalidNumber, [1001], ladder, "b", 1, 1001, 10)
        self.check_error(InvalidNumber, [1001], ladder, "b", 1001, 0, 2)


class Uses(Case):
    def test_no_uses(self):
        for rest in RESTS:
            self.check_same(fullest(rest, []), (0, None))
            self.check_same(fullest(rest, ()), (0, None))
            self.check_same(is_within(Rule("b", 1, rest), []), True)

    def test_one_use(self):
        self.check_same(fullest(Window(4), [(9, 3)]), (3, 9))
        self.check_same(fullest(Window(4), [(0, 1)]), (1, 0))
        for chips, wanted in [(2, False), (3, True), (4, True)]:
            self.check_same(is_within(Rule("b", chips, Window(4)), [(9, 3)]), wanted)

    def test_just_at_the_end_of_a_stretch_and_ahead_of_it(self):
        self.check_same(fullest(Window(4), [(5, 2), (9, 2)]), (2, 5))
        self.check_same(fullest(Window(4), [(5, 2), (8, 2)]), (4, 5))
        self.check_same(fullest(Days([3, 7], 5), [(3, 1), (7, 1), (12, 1)]), (1, 3))
        self.check_same(fullest(Days([3, 7], 5), [(3, 1), (6, 1), (11, 1), (7, 1), (8, 1)]), (3, 7))
        rule = Rule("b", 3, Window(4))
        self.check_same(is_within(rule, [(5, 2), (8, 2)]), False)
        self.check_same(is_within(rule, [(5, 2), (9, 2)]), True)

    def test_equal_moments(self):
        self.check_same(fullest(Window(4), [(5, 2), (5, 1), (5, 4)]), (7, 5))
        self.check_same(fullest(Window(1), [(5, 2), (6, 3), (5, 2)]), (4, 5))
        self.check_same(is_within(Rule("b", 6, Window(1)), [(5, 2), (5, 1), (5, 4)]), False)
        self.check_same(is_within(Rule("b", 7, Window(1)), [(5, 2), (5, 1), (5, 4)]), True)

    def test_the_least_moment_with_the_greatest_sum(self):
        self.check_same(fullest(Window(4), [(20, 3), (0, 3), (10, 3)]), (3, 0))
        self.check_same(fullest(Window(4), [(20, 3), (0, 2), (10, 3)]), (3, 10))
        self.check_same(fullest(Window(4), [(8, 2), (5, 2), (11, 2), (9, 2)]), (6, 8))
        self.check_same(fullest(Window(10), [(1, 1), (2, 1), (11, 1), (3, 5)]), (7, 1))

    def test_any_order_in_lists_and_tuples(self):
        uses = [(0, 1), (3, 2), (3, 1), (7, 1), (9, 3), (100000, 2)]
        for rest in RESTS:
            wanted = fullest_by_hand(rest, uses)
            for order in itertools.permutations(uses):
                self.check_same(fullest(rest, list(order)), wanted)
            self.check_same(fullest(uses=tuple(reversed(uses)), rest=rest), wanted)
            for chips in (wanted[0] - 1, wanted[0], wanted[0] + 1):
                rule = Rule("b", chips, rest)
                self.check_same(is_within(rule, uses[::-1]), chips >= wanted[0])
                self.check_same(is_within(uses=tuple(uses), rule=rule), chips >= wanted[0])

    def test_against_each_moment(self):
        for rest, moments in itertools.product(RESTS, itertools.combinations_with_replacement(range(0, 14, 2), 4)):
            for ns in [(1, 1, 1, 1), (3, 1, 2, 1), (1, 2, 1, 3)]:
                uses = list(zip(moments, ns))
                self.check_same(fullest(rest, uses), fullest_by_hand(rest, uses))

    def test_no_other_moment_has_a_fuller_stretch(self):
        uses = [(4, 2), (9, 1), (11, 4), (13, 2), (30, 5)]
        for rest in RESTS:
            greatest = max(sum(n for moment, n in uses if s <= moment < rest(s)) for s in range(40))
            self.assertEqual(fullest(rest, uses)[0], greatest)

    def test_what_is_passed_stays(self):
        uses = [(9, 1), (3, 2), (3, 1), (0, 4)]
        fullest(Window(4), uses)
        is_within(Rule("b", 1, Window(4)), uses)
        self.check_same(uses, [(9, 1), (3, 2), (3, 1), (0, 4)])

    def test_many_and_great_uses(self):
        uses = [(moment, 999999999) for moment in range(3000)]
        self.check_same(fullest(Window(1000), uses), (1000 * 999999999, 0))
        self.check_same(fullest(Days([1], 2000), uses), (2000 * 999999999, 1))


if __name__ == "__main__":
    unittest.main()
