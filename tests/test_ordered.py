"""ordered (3) and orderedtree (4)."""

import unittest
from itertools import product

from tests import trying
from tests.asking import HIGHEST, LOWEST, ask, ask_last, farms, ordered, orderedtree


class Ordered(unittest.TestCase):
    def test_one_farm(self):
        self.assertEqual(
            ask(farms(1000), ordered(2), ordered(3), orderedtree(2), orderedtree(3))[1:],
            [[0], [0], [0, 0], [0, 0]],
        )

    def test_the_pens_stay_in_order(self):
        self.assertEqual(
            ask(farms(1, 100, 1), ordered(2), orderedtree(2), ordered(3), orderedtree(3))[1:],
            [[102 + 101], [2, 0, 0, 2, 0, 1, 0, 2], [102], [3, 0, 0, 0, 1, 0, 2]],
        )

    def test_gates_of_two_ways_come_ahead(self):
        self.assertEqual(ask_last(farms(7, 0, 0), orderedtree(3)), [2, 0, 0, 2, 0, 1, 0, 2])
        self.assertEqual(ask_last(farms(0, 0, 7), orderedtree(3)), [2, 2, 0, 0, 0, 1, 0, 2])
        self.assertEqual(ask_last(farms(0, 7, 0), orderedtree(3)), [3, 0, 0, 0, 1, 0, 2])

    def test_fewer_on_the_first_way_comes_ahead(self):
        self.assertEqual(ask_last(farms(2, 2, 2), orderedtree(2)), [2, 0, 0, 2, 0, 1, 0, 2])

    def test_fewer_on_the_second_way_comes_ahead(self):
        self.assertEqual(ask_last(farms(5, 1, 1, 1), orderedtree(3)), [3, 0, 0, 0, 1, 2, 0, 2, 0, 3])
        self.assertEqual(ask_last(farms(1, 1, 1, 1), orderedtree(3)), [3, 0, 0, 0, 1, 2, 0, 2, 0, 3])

    def test_likewise_within_each_way(self):
        self.assertEqual(
            ask_last(farms(0, 0, 0, 0, 0, 0, 0, 0), orderedtree(2)),
            [2, 0, 0, 2, 0, 1, 2, 0, 2, 2, 0, 3, 2, 0, 4, 2, 0, 5, 2, 0, 6, 0, 7],
        )

    def test_eight_farms(self):
        self.assertEqual(
            ask(farms(*[1000] * 8), ordered(2), orderedtree(2))[1:],
            [[24000], [2, 2, 2, 0, 0, 0, 1, 2, 0, 2, 0, 3, 2, 2, 0, 4, 0, 5, 2, 0, 6, 0, 7]],
        )
        self.assertEqual(
            ask(farms(*[1000] * 8), ordered(3), orderedtree(3))[1:],
            [[16000], [3, 2, 0, 0, 0, 1, 3, 0, 2, 0, 3, 0, 4, 3, 0, 5, 0, 6, 0, 7]],
        )

    def test_wrong_ways(self):
        for w in [1, 4, 0, -1, -2, -3, LOWEST, HIGHEST]:
            with self.subTest(w=w):
                self.assertEqual(
                    ask(ordered(w), orderedtree(w), farms(3, 1), ordered(w), orderedtree(w), ordered(2)),
                    [[-1], [-1], [4], [-1], [-1], [4]],
                )


class AgainstEveryPlanInOrder(unittest.TestCase):
    def check(self, sheep):
        for w in (2, 3):
            with self.subTest(sheep=sheep, w=w):
                plan = trying.first_in_order(sheep, w)
                self.assertEqual(
                    ask(farms(*sheep), ordered(w), orderedtree(w))[1:],
                    [[trying.cost_of(plan, sheep)], trying.as_numbers(plan)],
                )

    def test_few_farms(self):
        for many in range(1, 6):
            for sheep in product([0, 1, 2], repeat=many):
                self.check(list(sheep))

    def test_six_to_eight_farms(self):
        for sheep in [
            [0] * 8, [1000] * 8, [3, 1, 4, 1, 5, 9, 2, 6], [0, 0, 0, 1, 0, 0, 0, 0], [1, 2, 4, 8, 16, 32, 64, 128],
            [1000, 0, 1000, 0, 1000, 0, 1000, 0], [8, 7, 6, 5, 4, 3, 2, 1],
        ]:
            for many in (6, 7, 8):
                self.check(sheep[:many])


if __name__ == "__main__":
    unittest.main()
