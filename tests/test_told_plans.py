"""cost (5) and depths (6): plans told as numbers."""

import unittest

from tests import trying
from tests.asking import HIGHEST, LOWEST, NO_PLANS, ask, ask_last, cost, depths, farms


class Cost(unittest.TestCase):
    def test_a_pen_alone_costs_nothing(self):
        self.assertEqual(ask(farms(1000), cost(2, [0, 0]), cost(3, [0, 0]))[1:], [[1, 0, 0], [1, 0, 0]])

    def test_each_run_costs_the_sheep_below_it(self):
        self.assertEqual(
            ask(
                farms(5, 1, 2, 2),
                cost(2, [2, 0, 1, 2, 0, 0, 2, 0, 3, 0, 2]),
                cost(3, [2, 0, 1, 2, 0, 0, 2, 0, 3, 0, 2]),
                cost(3, [3, 0, 3, 0, 0, 2, 0, 2, 0, 1]),
                cost(3, [2, 3, 0, 3, 0, 2, 0, 1, 0, 0]),
                cost(3, [2, 0, 0, 3, 0, 3, 0, 2, 0, 1]),
            )[1:],
            [[1, 10 + 9 + 4, 3], [1, 23, 3], [1, 10 + 3, 2], [1, 10 + 5, 2], [1, 10 + 5, 2]],
        )

    def test_gates_of_three_ways_only_by_three(self):
        plan = [3, 0, 0, 0, 1, 0, 2]
        self.assertEqual(ask(farms(1, 2, 3), cost(2, plan), cost(3, plan))[1:], [[0], [1, 6, 1]])
        below = [2, 0, 0, 3, 0, 1, 0, 2, 0, 3]
        self.assertEqual(ask(farms(1, 2, 3, 4), cost(2, below), cost(3, below))[1:], [[0], [1, 19, 2]])

    def test_farms_without_sheep(self):
        self.assertEqual(ask_last(farms(0, 0), cost(2, [2, 0, 1, 0, 0])), [1, 0, 1])

    def test_eight_farms(self):
        chain = [2, 0, 7, 2, 0, 6, 2, 0, 5, 2, 0, 4, 2, 0, 3, 2, 0, 2, 2, 0, 1, 0, 0]
        self.assertEqual(
            ask(farms(*[1000] * 8), cost(2, chain), cost(3, chain))[1:],
            [[1, 35000, 7], [1, 35000, 7]],
        )

    def test_no_plans_answer_0(self):
        for plan in NO_PLANS:
            for w in (2, 3):
                with self.subTest(plan=plan, w=w):
                    self.assertEqual(ask_last(farms(1, 2, 3), cost(w, plan)), [0])

    def test_wrong_ways(self):
        for w in [1, 4, 0, -1, -2, -3, LOWEST, HIGHEST]:
            for plan in [[], [3, 0, 0, 0, 1, 0, 2], [0, 0]]:
                with self.subTest(w=w, plan=plan):
                    self.assertEqual(
                        ask(farms(1, 2, 3), cost(w, plan), cost(3, [3, 0, 0, 0, 1, 0, 2]))[1:],
                        [[-1], [1, 6, 1]],
                    )


class Depths(unittest.TestCase):
    def test_a_pen_alone_has_no_run(self):
        self.assertEqual(ask_last(farms(3), depths([0, 0])), [1, 0])

    def test_they_stand_by_farm(self):
        self.assertEqual(ask_last(farms(1, 2, 3), depths([2, 0, 2, 2, 0, 0, 0, 1])), [3, 2, 2, 1])
        self.assertEqual(ask_last(farms(1, 2, 3), depths([2, 2, 0, 2, 0, 0, 0, 1])), [3, 2, 1, 2])
        self.assertEqual(ask_last(farms(1, 2, 3, 4), depths([3, 0, 3, 2, 0, 0, 0, 2, 0, 1])), [4, 2, 1, 2, 1])

    def test_eight_farms(self):
        chain = [2, 0, 7, 2, 0, 6, 2, 0, 5, 2, 0, 4, 2, 0, 3, 2, 0, 2, 2, 0, 1, 0, 0]
        self.assertEqual(ask_last(farms(*[0] * 8), depths(chain)), [8, 7, 7, 6, 5, 4, 3, 2, 1])

    def test_no_plans_are_refused(self):
        for plan in NO_PLANS:
            with self.subTest(plan=plan):
                self.assertEqual(
                    ask(farms(1, 2, 3), depths(plan), depths([3, 0, 0, 0, 1, 0, 2]))[1:],
                    [[-7], [3, 1, 1, 1]],
                )

    def test_a_farm_that_is_not_there(self):
        self.assertEqual(ask(depths([0, 1]), depths([0, -1]), depths([0, 0])), [[-7], [-7], [1, 0]])


class EveryPlanInOrder(unittest.TestCase):
    def test_cost_and_depths(self):
        sheep = [5, 1, 0, 7, 2, 1000, 3, 4]
        for many in range(1, 8):
            for plan in trying.plans_in_order(0, many, 3):
                numbers = trying.as_numbers(plan)
                told, runs = ask(farms(*sheep[:many]), cost(3, numbers), depths(numbers))[1:]
                self.assertEqual(told, [1, trying.cost_of(plan, sheep), trying.runs_of(plan)])
                found = trying.depths_of(plan)
                self.assertEqual(runs, [many] + [found[farm] for farm in range(many)])

    def test_cut_off_or_with_one_behind(self):
        for plan in trying.plans_in_order(0, 5, 3):
            numbers = trying.as_numbers(plan)
            for wrong in [numbers[:end] for end in range(len(numbers))] + [numbers + [more] for more in range(4)]:
                self.assertEqual(
                    ask(farms(1, 2, 3, 4, 5), cost(3, wrong), depths(wrong))[1:],
                    [[0], [-7]],
                )


if __name__ == "__main__":
    unittest.main()
