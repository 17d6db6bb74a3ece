"""Answers: their words, attributes, texts and equality."""

import unittest

from support import OTHERS, Case

from surelet.answers import Behind, No, Waits, Yes

PAID = (("b0", "a", 0, 2), ("b0", "m", 3, 1), ("b1", "a", 0, 3))


class Answers(Case):
    def test_words_and_attributes(self):
        answer = Yes(PAID)
        self.check_same([answer.word, answer.paid], ["yes", PAID])
        answer = No("b0", 1, 2)
        self.check_same([answer.word, answer.rule, answer.ready, answer.asked], ["no", "b0", 1, 2])
        answer = Behind("ann")
        self.check_same([answer.word, answer.customer], ["behind", "ann"])
        answer = Waits("desk")
        self.check_same([answer.word, answer.room], ["waits", "desk"])

    def test_arguments_by_name(self):
        self.assertEqual(Yes(paid=PAID), Yes(PAID))
        self.assertEqual(No(asked=2, ready=1, rule="b0"), No("b0", 1, 2))
        self.assertEqual(Behind(customer="ann"), Behind("ann"))
        self.assertEqual(Waits(room="desk"), Waits("desk"))

    def test_texts(self):
        for answer, text in (
            (Yes(PAID), "Yes(6 chips)"), (Yes(()), "Yes(0 chips)"), (Yes(PAID[1:2]), "Yes(1 chips)"),
            (No("b0", 1, 2), "No(b0, 1 of 2)"), (No("r", 0, 1000), "No(r, 0 of 1000)"),
            (Behind("ann"), "Behind(ann)"), (Waits("desk"), "Waits(desk)"),
        ):
            self.check_same(repr(answer), text)
            self.check_same(str(answer), text)

    def test_equality(self):
        rows = [Yes(PAID), Yes(()), Yes(PAID[:2]), No("b0", 1, 2), No("b1", 1, 2), No("b0", 0, 2), No("b0", 1, 3),
                Behind("ann"), Behind("bob"), Waits("desk"), Waits("ann")]
        for at, one in enumerate(rows):
            for other in rows[:at] + rows[at + 1:] + OTHERS:
                self.assertFalse(one == other, (one, other))
                self.assertTrue(one != other)
        for one, other in ((Yes(PAID), Yes(tuple(PAID))), (No("b0", 1, 2), No("b0", 1, 2)),
                           (Behind("ann"), Behind("ann")), (Waits("desk"), Waits("desk"))):
            self.assertTrue(one == other)
            self.assertFalse(one != other)


if __name__ == "__main__":
    unittest.main()
