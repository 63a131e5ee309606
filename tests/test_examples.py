"""The document's own examples."""

import unittest

from sheepgates.sheds import answers
from tests.asking import (
    ask, canbe, cost, depths, farms, least, ordered, orderedtree, sheep, tree, within,
)

PLAN = [2, 2, 0, 0, 0, 1, 2, 0, 2, 0, 3]


class Examples(unittest.TestCase):
    def test_first_row(self):
        rows = [
            (farms(5, 1, 2, 2), [10]),
            (least(2), [18]),
            (tree(2), [2, 0, 0, 2, 0, 3, 2, 0, 1, 0, 2]),
            (least(3), [13]),
            (tree(3), [3, 0, 3, 2, 0, 1, 0, 2, 0, 0]),
            (ordered(2), [18]),
            (orderedtree(2), [2, 0, 0, 2, 2, 0, 1, 0, 2, 0, 3]),
            (cost(2, PLAN), [1, 20, 3]),
            (depths(PLAN), [4, 2, 2, 2, 2]),
            (canbe(2, [1, 2, 3, 3]), [1]),
            (canbe(2, [1, 1, 3, 3]), [0]),
            (within(2, 2), [1, 20]),
            (within(2, 1), [0]),
            (sheep(0, 2, 1, 0, 3), [5]),
        ]
        self.assertEqual(ask(*[call for call, told in rows]), [told for call, told in rows])

    def test_second_row(self):
        self.assertEqual(
            ask(farms(0, 0, 0, 0), orderedtree(3)),
            [[0], [2, 0, 0, 2, 0, 1, 2, 0, 2, 0, 3]],
        )

    def test_the_lists_as_they_stand(self):
        self.assertEqual(
            answers([0, 4, 5, 1, 2, 2, 1, 2, 6, 11] + PLAN + [8, 2, 2, 8, 2, 1, 9, 0, 1, 4]),
            [1, 10, 1, 18, 5, 4, 2, 2, 2, 2, 2, 1, 20, 1, 0, 1, 0, 1, -1],
        )


if __name__ == "__main__":
    unittest.main()
