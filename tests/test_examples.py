"""The document's own examples."""

import unittest

from sheepgates.sheds import answers
from tests.asking import (
    ask, canbe, cost, depths, farms, least, mend, mixed, ordered, orderedtree, pens, shed, sheep, tree, walked, within,
)

PLAN = [2, 2, 0, 0, 0, 1, 2, 0, 2, 0, 3]
LEAST = [2, 0, 0, 2, 0, 3, 2, 0, 1, 0, 2]


class Examples(unittest.TestCase):
    def test_first_row(self):
        rows = [
            (farms(5, 1, 2, 2), [10]),
            (least(2), [18]),
            (tree(2), LEAST),
            (least(3), [13]),
            (tree(3), [3, 0, 3, 2, 0, 1, 0, 2, 0, 0]),
            (ordered(2), [18]),
            (orderedtree(2), [2, 0, 0, 2, 2, 0, 1, 0, 2, 0, 3]),
            (cost(2, PLAN), [1, 20, 3]),
            (depths(PLAN), [4, 2, 2, 2, 2]),
            (canbe(2, [1, 2, 3, 3]), [1]),
            (canbe(2, [1, 1, 3, 3]), [0]),
            (within(2, 2), [1, 20]),
            (within(2, 1), [0]),
            (sheep(0, 2, 1, 0, 3), [5]),
            (shed(LEAST), [4, 0, 2, 0, 3, 3, 1, 4, 1, 1, 2, 2, 1, 1]),
            (walked(LEAST), [10]),
        ]
        self.assertEqual(ask(*[call for call, told in rows]), [told for call, told in rows])

    def test_second_row(self):
        self.assertEqual(
            ask(farms(0, 0, 0, 0), orderedtree(3)),
            [[0], [2, 0, 0, 2, 0, 1, 2, 0, 2, 0, 3]],
        )

    def test_third_row(self):
        self.assertEqual(
            ask(farms(3, 2), pens(3, 1, 0, 2), mixed(), mend()),
            [[5], [6], [1, 0, 2, 0, 1], [4]],
        )

    def test_all_rows_on_one_object(self):
        self.assertEqual(
            ask(
                farms(5, 1, 2, 2), sheep(0, 2, 1, 0, 3), shed(LEAST), walked(LEAST),
                farms(0, 0, 0, 0), orderedtree(3),
                farms(3, 2), pens(3, 1, 0, 2), mixed(), mend(),
            ),
            [
                [10], [5], [4, 0, 2, 0, 3, 3, 1, 4, 1, 1, 2, 2, 1, 1], [10],
                [0], [2, 0, 0, 2, 0, 1, 2, 0, 2, 0, 3],
                [5], [6], [1, 0, 2, 0, 1], [4],
            ],
        )

    def test_the_lists_as_they_stand(self):
        self.assertEqual(
            answers([0, 4, 5, 1, 2, 2, 1, 2, 6, 11] + PLAN + [8, 2, 2, 8, 2, 1, 9, 0, 1, 4]),
            [1, 10, 1, 18, 5, 4, 2, 2, 2, 2, 2, 1, 20, 1, 0, 1, 0, 1, -1],
        )

    def test_the_lists_of_the_later_calls_as_they_stand(self):
        self.assertEqual(
            answers(
                [0, 4, 5, 1, 2, 2, 9, 5, 0, 2, 1, 0, 3, 10, 11] + LEAST + [11, 11] + LEAST
                + [15, 16, 18, 17, 4, 0, 2, 3, 2, 12, 4, 3, 1, 0, 2, 13, 14, 17, 0, 11, 0, 12, 0, 19, 18]
            ),
            [1, 10, 1, 5, 14, 4, 0, 2, 0, 3, 3, 1, 4, 1, 1, 2, 2, 1, 1, 1, 10]
            + [5, 4, 5, 1, 2, 2, 6, 5, 0, 2, 1, 0, 3, 3, 4, 10, 5, 1, -1, 1, 5, 1, 6, 5, 1, 0, 2, 0, 1, 1, 4]
            + [3, 2, 3, 1, 1, -7, 1, -1, 1, 0, 3, 1, 0, 0],
        )


if __name__ == "__main__":
    unittest.main()
