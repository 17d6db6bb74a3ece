"""Choices: a list of numbers that decides what is free."""


class Choices:
    """Numbers that are taken one by one."""

    def __init__(self, numbers):
        self._numbers = list(numbers)
        self._taken = 0

    def choose(self, m):
        """A choice among m possibilities, told as a number below m."""
        # A single possibility is no choice, and takes no number.
        if m == 1 or self._taken == len(self._numbers):
            return 0
        number = self._numbers[self._taken]
        self._taken += 1
        return number % m
