"""least (1) and tree (2)."""

import unittest
from itertools import product

from tests import trying
from tests.asking import HIGHEST, LOWEST, ask, ask_last, cost, farms, least, tree

WRONG_WAYS = [1, 4, 0, -1, -2, -3, 23, LOWEST, HIGHEST]

EIGHTS = [
    [0] * 8, [1000] * 8, list(range(8)), list(range(8, 0, -1)), [1, 1, 2, 3, 5, 8, 13, 21],
    [512, 256, 128, 64, 32, 16, 8, 4], [0, 0, 0, 1, 1, 2, 2, 1000], [7, 0, 7, 0, 7, 0, 7, 0],
]


class Least(unittest.TestCase):
    def test_one_farm(self):
        self.assertEqual(ask(farms(1000), least(2), least(3), tree(2), tree(3))[1:], [[0], [0], [0, 0], [0, 0]])

    def test_two_farms(self):
        self.assertEqual(
            ask(farms(9, 4), least(2), least(3), tree(2), tree(3))[1:],
            [[13], [13], [2, 0, 1, 0, 0], [2, 0, 1, 0, 0]],
        )

    def test_three_farms(self):
        self.assertEqual(
            ask(farms(9, 4, 6), least(2), least(3), tree(2), tree(3))[1:],
            [[29], [19], [2, 0, 0, 2, 0, 1, 0, 2], [3, 0, 1, 0, 2, 0, 0]],
        )

    def test_of_as_many_the_lesser_farm_is_first(self):
        self.assertEqual(ask_last(farms(4, 4), tree(2)), [2, 0, 0, 0, 1])
        self.assertEqual(ask_last(farms(4, 4, 4), tree(3)), [3, 0, 0, 0, 1, 0, 2])
        self.assertEqual(ask_last(farms(6, 3, 6, 3), tree(2)), [2, 2, 0, 1, 0, 3, 2, 0, 0, 0, 2])

    def test_a_run_goes_behind_all_with_no_more_sheep(self):
        # 1 and 1 make a run of two sheep, which stands behind both the farms of two.
        self.assertEqual(
            ask_last(farms(1, 1, 2, 2), tree(2)),
            [2, 2, 0, 0, 0, 1, 2, 0, 2, 0, 3],
        )
        # The run of three stands ahead of the farm of four.
        self.assertEqual(
            ask_last(farms(4, 1, 2), tree(2)),
            [2, 2, 0, 1, 0, 2, 0, 0],
        )

    def test_farms_without_sheep(self):
        self.assertEqual(
            ask(farms(0, 0, 0, 0), least(2), tree(2), least(3), tree(3))[1:],
            [[0], [2, 2, 0, 0, 0, 1, 2, 0, 2, 0, 3], [0], [3, 0, 2, 0, 3, 2, 0, 0, 0, 1]],
        )
        self.assertEqual(
            ask(farms(0, 5, 0), least(2), tree(2), least(3), tree(3))[1:],
            [[5], [2, 2, 0, 0, 0, 2, 0, 1], [5], [3, 0, 0, 0, 2, 0, 1]],
        )

    def test_eight_farms_of_as_many(self):
        self.assertEqual(
            ask(farms(*[1000] * 8), least(2), tree(2))[1:],
            [[24000], [2, 2, 2, 0, 0, 0, 1, 2, 0, 2, 0, 3, 2, 2, 0, 4, 0, 5, 2, 0, 6, 0, 7]],
        )
        self.assertEqual(
            ask(farms(*[1000] * 8), least(3), tree(3))[1:],
            [[2000 + 3000 + 3000 + 8000], [3, 2, 0, 0, 0, 1, 3, 0, 2, 0, 3, 0, 4, 3, 0, 5, 0, 6, 0, 7]],
        )

    def test_even_and_odd_by_three_ways(self):
        self.assertEqual(
            ask(farms(1, 2, 3, 4, 5), least(3), tree(3))[1:],
            [[6 + 15], [3, 0, 3, 0, 4, 3, 0, 0, 0, 1, 0, 2]],
        )
        self.assertEqual(
            ask(farms(1, 2, 3, 4, 5, 6), least(3), tree(3))[1:],
            [[3 + 10 + 21], [3, 0, 4, 0, 5, 3, 0, 2, 2, 0, 0, 0, 1, 0, 3]],
        )


class AgainstEveryPlan(unittest.TestCase):
    def check(self, sheep, w):
        told, shape = ask(farms(*sheep), least(w), tree(w))[1:]
        self.assertEqual(told, [trying.least_cost(sheep, w)])
        self.assertEqual(ask_last(farms(*sheep), cost(w, shape))[:2], [1] + told)

    def test_no_plan_costs_less(self):
        for many in range(1, 5):
            for sheep in product([0, 1, 2, 5], repeat=many):
                for w in (2, 3):
                    with self.subTest(sheep=sheep, w=w):
                        self.check(list(sheep), w)

    def test_no_plan_for_more_farms_costs_less(self):
        for sheep in EIGHTS:
            for many in (5, 6, 7, 8):
                for w in (2, 3):
                    with self.subTest(sheep=sheep[:many], w=w):
                        self.check(sheep[:many], w)


class ByTheWords(unittest.TestCase):
    def test_trees(self):
        rows = [list(sheep) for many in range(1, 6) for sheep in product([0, 1, 2], repeat=many)]
        rows += [sheep[:many] for sheep in EIGHTS for many in (6, 7, 8)]
        for sheep in rows:
            for w in (2, 3):
                with self.subTest(sheep=sheep, w=w):
                    self.assertEqual(
                        ask_last(farms(*sheep), tree(w)),
                        trying.as_numbers(trying.least_told(sheep, w)),
                    )


class WrongWays(unittest.TestCase):
    def test_refused(self):
        for w in WRONG_WAYS:
            with self.subTest(w=w):
                self.assertEqual(
                    ask(least(w), tree(w), farms(3, 1), least(w), tree(w), least(2)),
                    [[-1], [-1], [4], [-1], [-1], [4]],
                )


if __name__ == "__main__":
    unittest.main()
