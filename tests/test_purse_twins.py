"""Random runs of purses beside purses that are told chip by chip."""

import unittest

from twins import Chance, Twin, sent_by, trees

from support import Case


class Twins(Case):
    def run_of(self, tree, seed, errors, count, falls):
        """Operations on all servers of a tree, with their letters carried in any order, and falls if told."""
        chance = Chance(seed)
        random = chance.random
        twins = {server: Twin(tree, server, error) for server, error in zip(tree.servers(), errors)}
        letters = []
        moment = 0
        for step in range(count):
            moment += random.choice([0, 0, 0, 0, 0, 1, 1, random.randint(0, 9)])
            twin = twins[random.choice(list(twins))]
            if falls and random.random() < 0.03 and moment + twin.chips.error >= twin.chips.low:
                twin.wake(moment)
            word, *items = chance.operation(twin.chips, moment, letters)
            got, wanted = twin.do(word, *items)
            self.check_same(got, wanted)
            if got[0] == "returned" and sent_by(word, got[1]) is not None:
                letters.append(sent_by(word, got[1]))
            shown, told = twin.shown()
            self.check_same(shown, told)

    def test_runs(self):
        for at, tree in enumerate(trees()):
            for seed in range(12):
                errors = [(0, 0, 0), (1, 2, 0), (3, 5, 1)][seed % 3]
                with self.subTest(tree=at, seed=seed):
                    self.run_of(tree, 100 * at + seed, errors, 250, falls=False)

    def test_runs_with_falls(self):
        for at, tree in enumerate(trees()):
            for seed in range(6):
                with self.subTest(tree=at, seed=seed):
                    self.run_of(tree, 1000 + 100 * at + seed, (2, 1, 4), 250, falls=True)


if __name__ == "__main__":
    unittest.main()
