"""canbe (7) and within (8): how few runs farms can have."""

import unittest
from itertools import product

from tests import trying
from tests.asking import HIGHEST, LOWEST, ask, ask_last, canbe, farms, least, within

WRONG_WAYS = [1, 4, 0, -1, -2, -3, LOWEST, HIGHEST]


class CanBe(unittest.TestCase):
    def test_one_farm(self):
        self.assertEqual(ask(canbe(2, [0]), canbe(3, [0]), canbe(2, [8]), canbe(3, [8])), [[1]] * 4)

    def test_no_run_is_for_one_farm_alone(self):
        self.assertEqual(ask(farms(3, 4), canbe(2, [0, 8]), canbe(3, [8, 0]), canbe(3, [0, 0]))[1:], [[0]] * 3)

    def test_a_gate_holds_as_many_as_its_ways(self):
        self.assertEqual(ask(farms(3, 4), canbe(2, [1, 1]), canbe(3, [1, 1]))[1:], [[1], [1]])
        self.assertEqual(ask(farms(3, 4, 5), canbe(2, [1, 1, 8]), canbe(3, [1, 1, 1]))[1:], [[0], [1]])
        self.assertEqual(ask(farms(1, 1, 1, 1), canbe(3, [1, 1, 1, 8]), canbe(3, [1, 1, 2, 2]))[1:], [[0], [1]])

    def test_eight_farms(self):
        self.assertEqual(
            ask(
                farms(*[0] * 8),
                canbe(2, [3] * 8), canbe(2, [3] * 7 + [2]), canbe(2, [8] * 8), canbe(2, [1, 2, 3, 4, 5, 6, 7, 7]),
                canbe(2, [7, 7, 6, 5, 4, 3, 2, 1]), canbe(2, [1, 2, 3, 4, 5, 6, 7, 6]), canbe(2, [0] * 8),
                canbe(3, [2] * 8), canbe(3, [1, 1, 2, 3, 3, 3, 8, 8]), canbe(3, [1, 1, 2, 2, 3, 3, 3, 8]),
                canbe(3, [1, 1, 2, 2, 3, 3, 4, 8]), canbe(3, [1, 2, 2, 2, 2, 2, 2, 8]),
            )[1:],
            [[1], [0], [1], [1], [1], [0], [0], [1], [1], [0], [1], [0]],
        )

    def test_against_every_plan(self):
        for w in (2, 3):
            for many in range(1, 5):
                rows = trying.depth_rows(tuple(range(many)), w)
                for runs in product(range(5), repeat=many):
                    fits = any(all(had <= told for (farm, had), told in zip(row, runs)) for row in rows)
                    with self.subTest(w=w, runs=runs):
                        self.assertEqual(ask_last(farms(*[1] * many), canbe(w, runs)), [1 if fits else 0])

    def test_against_every_plan_for_more_farms(self):
        for w in (2, 3):
            for many in (5, 6, 7, 8):
                for first in range(0, 9):
                    for step in range(0, 4):
                        runs = [(first + farm * step) % 9 for farm in range(many)]
                        with self.subTest(w=w, runs=runs):
                            self.assertEqual(
                                ask_last(farms(*[1] * many), canbe(w, runs)),
                                [1 if trying.fits(runs, w) else 0],
                            )

    def test_rows_of_eight_that_just_can_be(self):
        for w in (2, 3):
            for runs in product((1, 2, 3, 5), repeat=4):
                row = list(runs) + [4, 4, 3, 3]
                with self.subTest(w=w, row=row):
                    self.assertEqual(
                        ask_last(farms(*[1] * 8), canbe(w, row)),
                        [1 if trying.fits(row, w) else 0],
                    )

    def test_the_sheep_do_not_matter(self):
        self.assertEqual(ask_last(farms(0, 0, 0), canbe(2, [1, 1, 1])), [0])
        self.assertEqual(ask_last(farms(1000, 1000, 0), canbe(2, [2, 2, 1])), [1])

    def test_wrong_lists(self):
        for runs in [
            [], [1], [2, 2], [2, 2, 2, 2], [2] * 64, [9, 2, 2], [2, 2, 9], [-1, 2, 2], [2, 2, -1], [2, LOWEST, 2],
            [2, HIGHEST, 2], [0, 0, 9],
        ]:
            for w in (2, 3):
                with self.subTest(runs=runs, w=w):
                    self.assertEqual(ask(farms(1, 2, 3), canbe(w, runs), canbe(w, [2, 2, 2]))[1:], [[-1], [1]])

    def test_wrong_ways(self):
        for w in WRONG_WAYS:
            with self.subTest(w=w):
                self.assertEqual(ask(canbe(w, [0]), farms(1, 2), canbe(w, [1, 1]), canbe(w, [])),
                                 [[-1], [3], [-1], [-1]])


class Within(unittest.TestCase):
    def test_one_farm_needs_no_run(self):
        self.assertEqual(
            ask(farms(7), within(2, 0), within(3, 0), within(2, 8), within(3, 8))[1:],
            [[1, 0]] * 4,
        )

    def test_two_farms_need_one(self):
        self.assertEqual(
            ask(farms(7, 2), within(2, 0), within(3, 0), within(2, 1), within(3, 1), within(2, 8))[1:],
            [[0], [0], [1, 9], [1, 9], [1, 9]],
        )

    def test_as_many_farms_as_the_runs_hold(self):
        self.assertEqual(ask(farms(1, 1, 1), within(2, 1), within(3, 1))[1:], [[0], [1, 3]])
        self.assertEqual(ask(farms(1, 1, 1, 1), within(2, 1), within(2, 2), within(3, 1), within(3, 2))[1:],
                         [[0], [1, 8], [0], [1, 6]])
        self.assertEqual(ask(farms(*[1] * 8), within(2, 2), within(2, 3), within(3, 1), within(3, 2))[1:],
                         [[0], [1, 24], [0], [1, 16]])

    def test_fewer_runs_cost_more(self):
        self.assertEqual(
            ask(farms(1, 2, 4, 8, 16), within(2, 2), within(2, 3), within(2, 4), within(2, 8), least(2))[1:],
            [[0], [1, 16 + 3 * (1 + 2 + 4 + 8)], [1, 16 + 16 + 12 + 12], [1, 56], [56]],
        )

    def test_the_farms_may_stand_anywhere(self):
        self.assertEqual(ask_last(farms(4, 16, 1, 8, 2), within(2, 3)), [1, 61])

    def test_farms_without_sheep_count_too(self):
        self.assertEqual(ask(farms(0, 0, 0), within(2, 1), within(2, 2))[1:], [[0], [1, 0]])
        self.assertEqual(ask(farms(0, 9, 0, 0), within(3, 1), within(3, 2))[1:], [[0], [1, 9]])

    def test_against_every_plan(self):
        rows = [list(sheep) for many in range(1, 5) for sheep in product([0, 1, 7], repeat=many)]
        rows += [
            [1, 2, 4, 8, 16], [3, 1, 4, 1, 5, 9], [64, 32, 16, 8, 4, 2, 1], [0, 0, 0, 0, 0, 0, 1],
            [1, 1, 2, 3, 5, 8, 13, 21], [1000] * 8, [1000, 333, 111, 37, 12, 4, 1, 0],
        ]
        for sheep in rows:
            for w in (2, 3):
                for most in range(9):
                    with self.subTest(sheep=sheep, w=w, most=most):
                        told = trying.least_cost(sheep, w, most)
                        self.assertEqual(
                            ask_last(farms(*sheep), within(w, most)),
                            [0] if told is None else [1, told],
                        )

    def test_wrong_numbers(self):
        for w, most in [(w, 3) for w in WRONG_WAYS] + [(2, most) for most in (-1, 9, LOWEST, HIGHEST)] + [
            (3, -1), (3, 9), (1, 9), (LOWEST, HIGHEST),
        ]:
            with self.subTest(w=w, most=most):
                self.assertEqual(
                    ask(within(w, most), farms(2, 3), within(w, most), within(2, 1)),
                    [[-1], [5], [-1], [1, 5]],
                )


if __name__ == "__main__":
    unittest.main()
