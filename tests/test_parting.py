"""shed (10) and walked (11): what a plan makes of a row of sheep."""

import unittest
from itertools import product

from tests import trying
from tests.asking import ALL_KEPT, HIGHEST, LOWEST, NO_PLANS, ask, ask_last, farms, pens, shed, sheep, walked

CHAIN = [2, 0, 7, 2, 0, 6, 2, 0, 5, 2, 0, 4, 2, 0, 3, 2, 0, 2, 2, 0, 1, 0, 0]


class Shed(unittest.TestCase):
    def test_before_the_first_call(self):
        self.assertEqual(ask(shed([0, 0]), walked([0, 0])), [[1, 0, 0], [0]])

    def test_one_farm(self):
        self.assertEqual(ask_last(farms(3), sheep(0, 0, 0), shed([0, 0])), [1, 0, 3, 0, 1, 2])
        self.assertEqual(
            ask_last(sheep(*[0] * 40), shed([0, 0])),
            [1, 0, 40] + list(range(40)),
        )

    def test_an_empty_row(self):
        self.assertEqual(ask_last(farms(3, 4), shed([2, 0, 1, 0, 0])), [2, 1, 0, 0, 0])
        self.assertEqual(ask_last(farms(3, 4), sheep(1), sheep(), shed([2, 0, 1, 0, 0])), [2, 1, 0, 0, 0])

    def test_pens_stand_in_the_order_of_the_plan(self):
        row = sheep(2, 0, 1, 2, 2)
        self.assertEqual(
            ask(
                farms(1, 1, 1), row, shed([3, 0, 0, 0, 1, 0, 2]), shed([3, 0, 2, 0, 1, 0, 0]),
                shed([2, 0, 1, 2, 0, 2, 0, 0]), shed([2, 2, 0, 1, 0, 2, 0, 0]),
            )[2:],
            [
                [3, 0, 1, 1, 1, 1, 2, 2, 3, 0, 3, 4], [3, 2, 3, 0, 3, 4, 1, 1, 2, 0, 1, 1],
                [3, 1, 1, 2, 2, 3, 0, 3, 4, 0, 1, 1], [3, 1, 1, 2, 2, 3, 0, 3, 4, 0, 1, 1],
            ],
        )

    def test_farms_that_are_not_in_the_row(self):
        self.assertEqual(
            ask_last(farms(9, 9, 9), sheep(1, 1), shed([3, 0, 2, 0, 1, 0, 0])),
            [3, 2, 0, 1, 2, 0, 1, 0, 0],
        )

    def test_eight_farms_and_forty_sheep(self):
        row = [place % 8 for place in range(40)]
        told = [8]
        for farm in (7, 6, 5, 4, 3, 2, 1, 0):
            told += [farm, 5] + list(range(farm, 40, 8))
        answered = ask_last(farms(*[0] * 8), sheep(*row), shed(CHAIN))
        self.assertEqual(answered, told)
        self.assertLess(len(answered), 100)


class Walked(unittest.TestCase):
    def test_a_pen_alone_costs_nothing(self):
        self.assertEqual(ask(sheep(*[0] * 40), walked([0, 0]))[1:], [[0]])

    def test_an_empty_row_costs_nothing(self):
        self.assertEqual(ask_last(farms(1000, 1000), walked([2, 0, 0, 0, 1])), [0])

    def test_the_row_counts_and_not_the_farms(self):
        self.assertEqual(ask_last(farms(1000, 0), sheep(1, 1, 0), walked([2, 0, 0, 0, 1])), [3])
        self.assertEqual(ask_last(farms(0, 0, 0), sheep(2, 2, 0), walked([2, 0, 0, 2, 0, 1, 0, 2])), [1 + 2 + 2])

    def test_gates_of_three_ways(self):
        self.assertEqual(
            ask(
                farms(1, 1, 1, 1), sheep(0, 1, 2, 3, 3), walked([3, 0, 0, 0, 1, 2, 0, 2, 0, 3]),
                walked([3, 2, 0, 2, 0, 3, 0, 1, 0, 0]), walked([2, 0, 3, 3, 0, 0, 0, 1, 0, 2]),
            )[2:],
            [[5 + 3], [5 + 3], [5 + 3]],
        )

    def test_eight_farms_and_forty_sheep(self):
        self.assertEqual(
            ask(farms(*[0] * 8), sheep(*[0] * 40), walked(CHAIN), sheep(*[7] * 40), walked(CHAIN))[2:],
            [[280], [40], [40]],
        )


class NoPlans(unittest.TestCase):
    def check(self, told, plan):
        before = [farms(*told), sheep(*range(len(told))), pens(*range(len(told) ** 2))]
        answered = ask(*before, *ALL_KEPT, shed(plan), walked(plan), *ALL_KEPT)[3:]
        kept = answered[:len(ALL_KEPT)]
        self.assertEqual(answered[len(ALL_KEPT):], [[-7], [-7]] + kept)

    def test_no_plans_are_refused(self):
        for plan in NO_PLANS:
            with self.subTest(plan=plan):
                self.check([1, 2, 3], plan)

    def test_gates_of_one_way(self):
        self.check([1], [1, 0, 0])
        self.check([1, 2], [2, 1, 0, 0, 0, 1])
        self.check([1, 2], [1, 2, 0, 0, 0, 1])

    def test_gates_of_four_ways(self):
        self.check([1, 2, 3, 4], [4, 0, 0, 0, 1, 0, 2, 0, 3])
        self.check([1, 2, 3, 4, 5], [2, 0, 4, 4, 0, 0, 0, 1, 0, 2, 0, 3])

    def test_fewer_and_more_farms(self):
        self.check([1], [2, 0, 0, 0, 1])
        self.check([1, 2], [0, 0])
        self.check([1] * 8, CHAIN[3:])
        self.check([1] * 7, CHAIN)
        self.check([1] * 8, [2, 0, 8] + CHAIN)
        self.check([1] * 8, [2, 0, 7] + CHAIN)

    def test_a_farm_twice(self):
        self.check([1, 2], [2, 0, 0, 0, 0])
        self.check([1, 2], [2, 0, 1, 0, 1])
        self.check([1, 2], [3, 0, 0, 0, 1, 0, 0])

    def test_numbers_behind(self):
        for more in (0, 1, 2, 3, -1, LOWEST, HIGHEST):
            self.check([1], [0, 0, more])
            self.check([1] * 8, CHAIN + [more])

    def test_cut_short(self):
        for end in range(len(CHAIN)):
            self.check([1] * 8, CHAIN[:end])

    def test_the_least_and_the_greatest_numbers(self):
        for wrong in (LOWEST, HIGHEST, -1, 8):
            for place in range(len(CHAIN)):
                self.check([1] * 8, CHAIN[:place] + [wrong] + CHAIN[place + 1:])


class AgainstWalkingEachSheep(unittest.TestCase):
    def check(self, plan, many, row):
        numbers = trying.as_numbers(plan)
        found, steps = ask(farms(*[0] * many), sheep(*row), shed(numbers), walked(numbers))[2:]
        self.assertEqual(found, trying.shed_of(plan, row, many))
        self.assertEqual(steps, [trying.walked_of(plan, row)])

    def test_every_plan_in_order(self):
        row = [3, 1, 4, 1, 5, 2, 6, 5, 3, 5, 0, 0, 7, 2, 3, 6, 7, 1, 0, 4, 4]
        for many in range(1, 7):
            for plan in trying.plans_in_order(0, many, 3):
                self.check(plan, many, [farm for farm in row if farm < many])

    def test_every_row_of_four_sheep(self):
        for row in product(range(3), repeat=4):
            for plan in [(0, 1, 2), (2, 0, 1), ((2, 0), 1), (1, (0, 2)), (0, (2, 1))]:
                self.check(plan, 3, list(row))


if __name__ == "__main__":
    unittest.main()
