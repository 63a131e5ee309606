"""farms (0) and sheep (9): what they answer, and what the calls 1 to 8 answer after them."""

import unittest

from tests.asking import (
    HIGHEST, LOWEST, WRONG_FARMS, ask, ask_last, canbe, cost, depths, farms, least, ordered, orderedtree, sheep, tree,
    within,
)

EVERY_QUESTION = [
    least(2), least(3), tree(2), tree(3), ordered(2), ordered(3), orderedtree(2), orderedtree(3),
    cost(2, [0, 0]), cost(2, [2, 0, 0, 0, 1]), cost(3, [3, 0, 0, 0, 1, 0, 2]),
    depths([0, 0]), depths([2, 0, 0, 0, 1]), depths([3, 0, 0, 0, 1, 0, 2]),
    canbe(2, [0]), canbe(2, [1, 1]), canbe(3, [1, 1, 1]), within(2, 1), within(3, 8),
    sheep(0), sheep(1), sheep(2),
]


class BeforeTheFirstCall(unittest.TestCase):
    def test_one_farm_without_sheep(self):
        self.assertEqual(
            ask(*EVERY_QUESTION),
            [
                [0], [0], [0, 0], [0, 0], [0], [0], [0, 0], [0, 0],
                [1, 0, 0], [0], [0],
                [1, 0], [-7], [-7],
                [1], [-1], [-1], [1, 0], [1, 0],
                [1], [-1], [-1],
            ],
        )

    def test_it_is_as_if_told(self):
        self.assertEqual(ask(*EVERY_QUESTION), ask(farms(0), *EVERY_QUESTION)[1:])


class Farms(unittest.TestCase):
    def test_answers_how_many_sheep(self):
        self.assertEqual(ask(farms(0), farms(1000), farms(7), farms(3, 0, 9)), [[0], [1000], [7], [12]])

    def test_eight_farms(self):
        self.assertEqual(ask(farms(*[0] * 8), farms(*[1000] * 8), farms(*range(8))), [[0], [8000], [28]])

    def test_later_calls_answer_for_the_new_farms(self):
        self.assertEqual(
            ask(
                farms(4, 4), least(2), cost(2, [2, 0, 0, 0, 1]), canbe(2, [1, 1]), sheep(1),
                farms(1, 2, 3), least(2), cost(2, [2, 0, 0, 0, 1]), canbe(2, [1, 1]), sheep(2),
                farms(9), least(2), tree(2), ordered(3), orderedtree(3), within(2, 0), depths([0, 0]), sheep(1),
            ),
            [
                [8], [8], [1, 8, 1], [1], [1],
                [6], [9], [0], [-1], [1],
                [9], [0], [0, 0], [0], [0, 0], [1, 0], [1, 0], [-1],
            ],
        )

    def test_wrong_farms(self):
        for given in WRONG_FARMS:
            with self.subTest(given=given):
                self.assertEqual(ask(farms(*given)), [[-1]])

    def test_a_refusal_changes_nothing(self):
        for told in [[0], [6, 2], [3, 5, 1]]:
            unrefused = ask(farms(*told), *EVERY_QUESTION)
            for given in WRONG_FARMS:
                with self.subTest(told=told, given=given):
                    answered = ask(farms(*told), farms(*given), *EVERY_QUESTION)
                    self.assertEqual(answered[1], [-1])
                    self.assertEqual(answered[2:], unrefused[1:])

    def test_each_answer_begins_anew(self):
        ask(farms(3, 4), sheep(1))
        self.assertEqual(ask(least(2), sheep(1)), [[0], [-1]])


class Sheep(unittest.TestCase):
    def test_answers_how_many(self):
        self.assertEqual(
            ask(sheep(), sheep(0), sheep(*[0] * 39), sheep(*[0] * 40)),
            [[0], [1], [39], [40]],
        )

    def test_every_farm_may_stand_in_it(self):
        self.assertEqual(ask_last(farms(*[0] * 8), sheep(7, 6, 5, 4, 3, 2, 1, 0, 7)), [9])

    def test_more_of_a_farm_than_it_has(self):
        self.assertEqual(ask_last(farms(1, 0), sheep(0, 0, 1, 1)), [4])

    def test_wrong_rows(self):
        for row in [[0] * 41, [0] * 64, [3], [-1], [0, 1, 3], [-1, 0], [LOWEST], [HIGHEST], [0, HIGHEST], [LOWEST, 0]]:
            with self.subTest(row=row):
                self.assertEqual(ask_last(farms(1, 2, 3), sheep(*row)), [-1])

    def test_the_eighth_farm_is_the_last(self):
        self.assertEqual(ask(farms(*[1] * 8), sheep(7), sheep(8))[1:], [[1], [-1]])

    def test_it_changes_no_other_answer(self):
        self.assertEqual(
            ask(farms(2, 1, 1), sheep(0, 1, 2), *EVERY_QUESTION)[2:],
            ask(farms(2, 1, 1), *EVERY_QUESTION)[1:],
        )


if __name__ == "__main__":
    unittest.main()
