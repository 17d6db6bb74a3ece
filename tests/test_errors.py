"""The errors of the package: parameters, attributes, codes and base classes."""

import itertools
import unittest

from support import OTHERS

import surelet.errors as errors

BASES = {"SureletError": ValueError, "Missing": LookupError, "NotNow": RuntimeError}
PARAMETERS = {
    "SureletError": {
        "InvalidNumber": ["value"],
        "InvalidName": ["value"],
        "InvalidText": ["text"],
        "InvalidBorders": ["at"],
        "InvalidRest": ["value"],
        "InvalidRule": ["value"],
        "InvalidPlace": ["at"],
        "InvalidServer": ["at"],
        "InvalidTree": ["at"],
        "InvalidCustomer": ["at"],
        "InvalidRoom": ["at"],
        "InvalidRow": ["at"],
        "InvalidParts": ["value"],
        "InvalidCut": ["at"],
        "InvalidDeed": ["value"],
        "InvalidEvent": ["value"],
        "BadTree": ["place"],
        "BadReading": ["server", "reading"],
        "BadMoment": ["moment"],
        "TooMany": ["what", "count"],
        "Over": ["value"],
        "NotHeld": ["place", "n"],
        "NoElder": ["place"],
        "WrongLetter": ["letter"],
        "Elsewhere": ["room"],
        "NotLacking": ["ready"],
        "NotSettled": [],
        "Early": ["at"],
        "NotPrompt": ["at"],
        "Refused": ["at"],
    },
    "Missing": {
        "UnknownName": ["name"],
        "UnknownLot": ["place", "number"],
        "UnknownLoan": ["number"],
        "NoSuchLetter": ["index"],
    },
    "NotNow": {"Fallen": ["name"], "NotFallen": ["name"]},
}
ROWS = [(base, name, PARAMETERS[base][name]) for base in PARAMETERS for name in PARAMETERS[base]]


def class_of(name):
    return getattr(errors, name)


class Errors(unittest.TestCase):
    def check_values(self, error, name, wanted):
        for key, value in wanted.items():
            self.assertIs(getattr(error, key), value, (name, key))
        self.assertEqual(error.code, name)

    def test_every_class_is_there(self):
        found = [name for name, value in vars(errors).items() if isinstance(value, type)]
        self.assertEqual(sorted(found), sorted([row[1] for row in ROWS] + list(BASES)))
        for name in found:
            self.assertEqual(class_of(name).__module__, "surelet.errors")
            self.assertEqual(class_of(name).__name__, name)

    def test_direct_base_classes(self):
        for name, base in BASES.items():
            self.assertEqual(class_of(name).__bases__, (base,))
        for base, name, _ in ROWS:
            self.assertEqual(class_of(name).__bases__, (class_of(base),), name)

    def test_no_class_is_below_another_one(self):
        for (_, name, _), (_, other, _) in itertools.permutations(ROWS, 2):
            self.assertFalse(issubclass(class_of(name), class_of(other)), (name, other))
        for name, other in itertools.permutations(BASES, 2):
            self.assertFalse(issubclass(class_of(name), class_of(other)), (name, other))

    def test_values_by_position_and_by_name(self):
        for _, name, keys in ROWS:
            values = [object() for _ in keys]
            wanted = dict(zip(keys, values))
            self.check_values(class_of(name)(*values), name, wanted)
            for order in itertools.permutations(keys):
                self.check_values(class_of(name)(**{key: wanted[key] for key in order}), name, wanted)
            for many in range(len(keys)):
                rest = {key: wanted[key] for key in keys[many:]}
                self.check_values(class_of(name)(*values[:many], **rest), name, wanted)

    def test_wrong_counts_of_values(self):
        for _, name, keys in ROWS:
            with self.assertRaises(TypeError):
                class_of(name)(*([1] * (len(keys) + 1)))
            if keys:
                with self.assertRaises(TypeError):
                    class_of(name)(*([1] * (len(keys) - 1)))

    def test_any_value_is_taken(self):
        for _, name, keys in ROWS:
            for value in OTHERS if keys else []:
                self.check_values(class_of(name)(*([value] * len(keys))), name, dict.fromkeys(keys, value))

    def test_attributes_stay_when_another_one_is_made(self):
        for _, name, keys in ROWS:
            first = [("first", key) for key in keys]
            error = class_of(name)(*first)
            class_of(name)(*[("second", key) for key in keys])
            self.check_values(error, name, dict(zip(keys, first)))

    def test_they_are_raised_and_caught_by_their_bases(self):
        for base, name, keys in ROWS:
            for caught in (class_of(name), class_of(base), BASES[base]):
                with self.assertRaises(caught):
                    raise class_of(name)(*keys)

    def test_the_three_bases_can_be_raised(self):
        for name, base in BASES.items():
            with self.assertRaises(base):
                raise class_of(name)("a word")


if __name__ == "__main__":
    unittest.main()
