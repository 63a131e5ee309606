"""pens (12), mixed (13), mend (14) and pen (17): strangers in pens."""

import unittest
from itertools import product

from tests import trying
from tests.asking import ALL_KEPT, HIGHEST, LOWEST, ask, ask_last, farms, mend, mixed, pen, pens, sheep


def at(many, numbers):
    """The n n numbers of pens that are empty but where told: by pen and farm."""
    return [numbers.get((number // many, number % many), 0) for number in range(many * many)]


class Pens(unittest.TestCase):
    def test_before_the_first_call(self):
        self.assertEqual(ask(mixed(), mend(), pen(0), pen(1)), [[0, 1, 0], [0], [1, 0], [-1]])

    def test_answers_how_many_sheep(self):
        self.assertEqual(ask(pens(0), pens(7), pens(1000)), [[0], [7], [1000]])
        self.assertEqual(
            ask(farms(3, 2), pens(3, 1, 0, 2), pens(0, 0, 0, 0), pens(*[1000] * 4))[1:],
            [[6], [0], [4000]],
        )

    def test_sixty_four_numbers(self):
        self.assertEqual(ask(farms(*[0] * 8), pens(*[1000] * 64), pens(*range(64)))[1:], [[64000], [2016]])
        self.assertEqual(
            ask(farms(*[0] * 8), pens(*range(64)), *[pen(p) for p in range(8)])[2:],
            [[8] + list(range(8 * p, 8 * p + 8)) for p in range(8)],
        )

    def test_the_farms_sheep_do_not_bound_them(self):
        self.assertEqual(ask_last(farms(0, 0), pens(1000, 1000, 1000, 1000)), [4000])

    def test_they_are_those_told_last(self):
        self.assertEqual(
            ask(farms(1, 1), pens(1, 2, 3, 4), pens(5, 6, 7, 8), pen(0), pen(1))[3:],
            [[2, 5, 6], [2, 7, 8]],
        )

    def test_wrong_pens(self):
        for many in (1, 2, 3, 7, 8):
            right = [5] * (many * many)
            lengths = (0, many, len(right) - 1, len(right) + 1, 63, 64)
            wrong = [[5] * length for length in lengths if length != len(right) and length <= 64]
            for number in (-1, 1001, LOWEST, HIGHEST):
                wrong += [[number] + right[1:], right[:-1] + [number]]
            for given in wrong:
                with self.subTest(many=many, given=given):
                    before = [farms(*[2] * many), pens(*right), sheep(0)]
                    answered = ask(*before, *ALL_KEPT, pens(*given), *ALL_KEPT)[3:]
                    kept = answered[:len(ALL_KEPT)]
                    self.assertEqual(answered[len(ALL_KEPT):], [[-1]] + kept)

    def test_the_ends_of_the_range(self):
        self.assertEqual(
            ask(pens(0), pens(1000), pens(-1), pens(1001), pens(LOWEST), pens(HIGHEST), pen(0)),
            [[0], [1000], [-1], [-1], [-1], [-1], [1, 1000]],
        )


class Pen(unittest.TestCase):
    def test_how_many_of_each_farm(self):
        self.assertEqual(
            ask(farms(1, 2, 3), pen(2), pens(1, 2, 3, 4, 5, 6, 7, 8, 9), pen(0), pen(1), pen(2))[1:],
            [[3, 0, 0, 0], [45], [3, 1, 2, 3], [3, 4, 5, 6], [3, 7, 8, 9]],
        )

    def test_farms_that_are_not_there(self):
        for many in range(1, 9):
            for p in (-1, many, 8, 9, LOWEST, HIGHEST):
                with self.subTest(many=many, p=p):
                    self.assertEqual(
                        ask(farms(*[1] * many), pen(p), pen(0), pen(many - 1))[1:],
                        [[-1], [many] + [0] * many, [many] + [0] * many],
                    )


class Mixed(unittest.TestCase):
    def test_no_strangers(self):
        self.assertEqual(ask_last(farms(1, 2, 3), mixed()), [0, 3, 0, 0, 0])
        self.assertEqual(ask_last(farms(1, 2, 3), pens(9, 0, 0, 0, 9, 0, 0, 0, 9), mixed()), [0, 3, 0, 0, 0])
        self.assertEqual(ask_last(pens(1000), mixed()), [0, 1, 0])

    def test_pens_by_farm_and_strangers_by_farm(self):
        self.assertEqual(
            ask_last(farms(0, 0, 0), pens(5, 0, 2, 0, 6, 0, 1, 3, 7), mixed()),
            [2, 0, 2, 3, 1, 3, 2],
        )

    def test_strangers_of_all_pens_are_taken_together(self):
        self.assertEqual(
            ask_last(farms(0, 0, 0), pens(0, 4, 0, 0, 9, 0, 0, 5, 0), mixed()),
            [2, 0, 2, 3, 0, 9, 0],
        )

    def test_one_stranger(self):
        for many in range(2, 9):
            for place in range(many):
                for farm in range(many):
                    strange = place != farm
                    with self.subTest(many=many, place=place, farm=farm):
                        self.assertEqual(
                            ask_last(farms(*[0] * many), pens(*at(many, {(place, farm): 1})), mixed()),
                            ([1, place] if strange else [0])
                            + [many] + [1 if strange and other == farm else 0 for other in range(many)],
                        )

    def test_all_are_full(self):
        self.assertEqual(
            ask(farms(*[0] * 8), pens(*[1000] * 64), mixed(), mend())[2:],
            [[8, 0, 1, 2, 3, 4, 5, 6, 7, 8] + [7000] * 8, [64000 + 3 * 56000]],
        )


class Mend(unittest.TestCase):
    def test_no_strangers_at_all(self):
        self.assertEqual(ask(mend(), pens(1000), mend()), [[0], [1000], [0]])
        self.assertEqual(ask(farms(5, 5), mend(), pens(5, 0, 0, 5), mend())[1:], [[0], [10], [0]])
        self.assertEqual(ask_last(farms(*[9] * 8), pens(*at(8, {(p, p): 9 for p in range(8)})), mend()), [0])

    def test_strangers_of_one_farm_alone(self):
        # All in the pens with strangers walk once; those taken out are one farm's, so no run parts them.
        self.assertEqual(ask_last(farms(3, 2), pens(3, 1, 0, 2), mend()), [4])
        self.assertEqual(ask_last(farms(3, 2), pens(3, 0, 7, 2), mend()), [9])
        self.assertEqual(ask_last(farms(0, 0, 0), pens(5, 0, 2, 0, 6, 8, 0, 0, 9), mend()), [7 + 14])

    def test_pens_with_strangers_only(self):
        self.assertEqual(ask_last(farms(0, 0), pens(0, 3, 0, 2), mend()), [3])
        self.assertEqual(ask_last(farms(0, 0), pens(0, 3, 4, 0), mend()), [3 + 4 + 7])
        self.assertEqual(ask_last(farms(0, 0, 0), pens(0, 1, 2, 0, 0, 0, 0, 0, 0), mend()), [3 + 3])

    def test_strangers_of_two_farms(self):
        self.assertEqual(ask_last(farms(0, 0, 0), pens(5, 1, 2, 0, 6, 0, 0, 0, 7), mend()), [8 + 3])

    def test_by_gates_of_two_ways(self):
        # Strangers 1, 2 and 4: 3 and 7 walk, where one gate of three ways would let only 7 walk.
        self.assertEqual(ask_last(farms(0, 0, 0), pens(0, 2, 4, 1, 0, 0, 0, 0, 0), mend()), [7 + 3 + 7])

    def test_farms_without_strangers_are_left_out(self):
        # A farm without strangers would have a pen in the plan, and so a run more for the others.
        self.assertEqual(
            ask_last(farms(0, 0, 0, 0), pens(*at(4, {(3, 0): 6, (3, 3): 1})), mend()),
            [7],
        )
        self.assertEqual(
            ask_last(farms(0, 0, 0, 0), pens(*at(4, {(3, 0): 6, (0, 1): 2})), mend()),
            [8 + 8],
        )

    def test_pens_without_strangers_cost_nothing(self):
        self.assertEqual(ask_last(farms(0, 0, 0), pens(5, 1, 0, 0, 1000, 0, 0, 0, 1000), mend()), [6])

    def test_neither_farms_nor_row_matter(self):
        self.assertEqual(ask_last(farms(1000, 0), sheep(0, 0, 1), pens(0, 1, 1, 0), mend()), [2 + 2])

    def test_by_the_words(self):
        for many, choices in ((1, (0, 1, 9)), (2, (0, 1, 5, 1000)), (3, (0, 1))):
            for given in product(choices, repeat=many * many):
                with self.subTest(given=given):
                    self.check(many, list(given))

    def test_by_the_words_for_more_farms(self):
        for many in range(4, 9):
            for step in (1, 3, 7, 11):
                given = [number * number * step % 17 // 6 * step for number in range(many * many)]
                with self.subTest(given=given):
                    self.check(many, given)

    def check(self, many, given):
        rows = [given[p * many:(p + 1) * many] for p in range(many)]
        strange, strangers = trying.mixed_of(rows)
        self.assertEqual(
            ask(farms(*[1] * many), pens(*given), mixed(), mend())[2:],
            [[len(strange)] + strange + [many] + strangers, [trying.mend_of(rows)]],
        )


if __name__ == "__main__":
    unittest.main()
