"""told (15), row (16), counts (18) and clear (19): what is kept, what changes it, and what does not."""

import unittest

from tests.asking import (
    ALL_KEPT, HIGHEST, LOWEST, NO_PLANS, WRONG_FARMS, ask, ask_last, canbe, clear, cost, counts, depths, farms, least,
    mend, mixed, ordered, orderedtree, pen, pens, row, shed, sheep, told, tree, walked, within,
)

PLAN = [3, 0, 2, 0, 0, 0, 1]
BEFORE = [farms(5, 1, 2), sheep(2, 0, 1, 2), pens(5, 0, 1, 0, 1, 0, 3, 0, 2)]
KEPT_BEFORE = [
    [3, 5, 1, 2], [4, 2, 0, 1, 2], [3, 8, 4], [2, 0, 2, 3, 3, 0, 1], [6 + 5 + 4],
    [3, 5, 0, 1], [3, 0, 1, 0], [3, 3, 0, 2],
] + [[-1]] * 6
KEPT_AT_FIRST = [[1, 0], [0], [1, 0, 0], [0, 1, 0], [0], [1, 0]] + [[-1]] * 8

WRONG_ROWS = [
    [3], [-1], [0, 1, 3], [-1, 0], [0] * 41, [0] * 64, [LOWEST], [HIGHEST], [0, HIGHEST], [LOWEST, 0],
]
WRONG_PENS = [
    [], [0], [0] * 3, [0] * 8, [0] * 10, [0] * 64, [-1] + [0] * 8, [0] * 8 + [1001], [LOWEST] + [0] * 8,
    [0] * 8 + [HIGHEST], [0] * 4 + [-1] + [0] * 4,
]
WRONG_WAYS = [1, 4, -2, LOWEST, HIGHEST]

QUESTIONS = [
    least(2), least(3), tree(2), tree(3), ordered(2), ordered(3), orderedtree(2), orderedtree(3),
    cost(2, PLAN), cost(3, PLAN), depths(PLAN), canbe(2, [1, 2, 2]), canbe(3, [0, 0, 0]), within(2, 1), within(3, 1),
    shed(PLAN), walked(PLAN), mixed(), mend(), told(), row(), pen(0), pen(2), counts(),
]
REFUSED = (
    [farms(*given) for given in WRONG_FARMS]
    + [call(w) for call in (least, tree, ordered, orderedtree) for w in WRONG_WAYS]
    + [cost(w, PLAN) for w in WRONG_WAYS] + [canbe(w, [1, 1, 1]) for w in WRONG_WAYS]
    + [canbe(2, runs) for runs in ([], [1, 1], [1] * 4, [1] * 64, [1, 1, 9], [-1, 1, 1])]
    + [within(w, 1) for w in WRONG_WAYS] + [within(2, most) for most in (-1, 9, LOWEST, HIGHEST)]
    + [sheep(*given) for given in WRONG_ROWS]
    + [pens(*given) for given in WRONG_PENS]
    + [pen(p) for p in (-1, 3, 7, 8, LOWEST, HIGHEST)]
)
REFUSED_PLANS = [call(plan) for call in (depths, shed, walked) for plan in NO_PLANS]


class WhatIsTold(unittest.TestCase):
    def test_told(self):
        self.assertEqual(
            ask(told(), farms(7), told(), farms(*[1000] * 8), told(), farms(0, 3), told()),
            [[1, 0], [7], [1, 7], [8000], [8] + [1000] * 8, [3], [2, 0, 3]],
        )

    def test_row(self):
        self.assertEqual(
            ask(row(), sheep(0), row(), sheep(*[0] * 40), row(), sheep(), row()),
            [[0], [1], [1, 0], [40], [40] + [0] * 40, [0], [0]],
        )
        self.assertEqual(ask_last(farms(*[0] * 8), sheep(7, 0, 3, 3), row()), [4, 7, 0, 3, 3])

    def test_counts(self):
        self.assertEqual(
            ask(counts(), sheep(0, 0), counts(), farms(4, 5, 6), counts(), sheep(2, 2, 1, 0), counts(), pens(*[9] * 9),
                counts(), farms(*[1000] * 8), sheep(*[7] * 40), counts()),
            [[1, 0, 0], [2], [1, 0, 2], [15], [3, 15, 0], [4], [3, 15, 4], [81],
             [3, 15, 4], [8000], [40], [8, 8000, 40]],
        )

    def test_all_at_first(self):
        self.assertEqual(ask(*ALL_KEPT), KEPT_AT_FIRST)

    def test_all_after_the_calls_that_change(self):
        self.assertEqual(ask(*BEFORE, *ALL_KEPT)[3:], KEPT_BEFORE)


class WhatChanges(unittest.TestCase):
    def test_farms_empties_the_row_and_the_pens(self):
        for given in ([5, 1, 2], [0, 0, 0], [4, 4], [1, 2, 3, 4]):
            many = len(given)
            with self.subTest(given=given):
                self.assertEqual(
                    ask(*BEFORE, farms(*given), *ALL_KEPT)[4:],
                    [[many] + given, [0], [many, sum(given), 0], [0, many] + [0] * many, [0]]
                    + [[many] + [0] * many] * many + [[-1]] * (9 - many),
                )

    def test_farms_empties_what_the_plans_are_walked_with(self):
        self.assertEqual(
            ask(*BEFORE, shed(PLAN), walked(PLAN), farms(5, 1, 2), shed(PLAN), walked(PLAN))[3:],
            [[3, 2, 2, 0, 3, 0, 1, 1, 1, 1, 2], [4], [8], [3, 2, 0, 0, 0, 1, 0], [0]],
        )

    def test_sheep_leaves_farms_and_pens(self):
        self.assertEqual(
            ask(*BEFORE, sheep(1, 1), *ALL_KEPT)[4:],
            [KEPT_BEFORE[0], [2, 1, 1], [3, 8, 2]] + KEPT_BEFORE[3:],
        )

    def test_pens_leaves_farms_and_row(self):
        self.assertEqual(
            ask(*BEFORE, pens(*[0] * 9), *ALL_KEPT)[4:],
            KEPT_BEFORE[:3] + [[0, 3, 0, 0, 0], [0]] + [[3, 0, 0, 0]] * 3 + [[-1]] * 6,
        )

    def test_pens_ahead_of_sheep(self):
        self.assertEqual(ask(BEFORE[0], BEFORE[2], BEFORE[1], *ALL_KEPT)[3:], KEPT_BEFORE)

    def test_one_pen_changed_leaves_the_others(self):
        self.assertEqual(ask(farms(0, 0), pens(0, 1, 0, 0), pen(0), pen(1))[2:], [[2, 0, 1], [2, 0, 0]])


class Clear(unittest.TestCase):
    def test_answers_0(self):
        self.assertEqual(ask(clear(), clear(), *BEFORE, clear(), clear())[5:], [[0], [0]])

    def test_all_is_as_before_the_first_call(self):
        self.assertEqual(ask(clear(), *ALL_KEPT)[1:], KEPT_AT_FIRST)
        self.assertEqual(ask(*BEFORE, clear(), *ALL_KEPT)[4:], KEPT_AT_FIRST)
        self.assertEqual(ask(farms(*[9] * 8), sheep(*[7] * 40), pens(*[9] * 64), clear(), *ALL_KEPT)[4:], KEPT_AT_FIRST)

    def test_every_question_is_answered_as_at_first(self):
        self.assertEqual(ask(*BEFORE, clear(), *QUESTIONS)[4:], ask(*QUESTIONS))
        self.assertEqual(
            ask(*BEFORE, clear(), shed([0, 0]), walked([0, 0]), tree(2), least(3), sheep(0), pens(3), mend())[4:],
            [[1, 0, 0], [0], [0, 0], [0], [1], [3], [0]],
        )

    def test_the_same_again_after_it(self):
        self.assertEqual(ask(*BEFORE, clear(), *BEFORE, *ALL_KEPT)[7:], KEPT_BEFORE)

    def test_each_part_is_set_back(self):
        for change in (farms(3, 4), sheep(0, 0), pens(8)):
            with self.subTest(change=change):
                self.assertEqual(ask(change, clear(), *ALL_KEPT)[2:], KEPT_AT_FIRST)

    def test_what_begins_anew_can_be_changed(self):
        self.assertEqual(ask(pens(8), sheep(0), clear(), pens(7), sheep(0, 0), clear(), *ALL_KEPT)[6:], KEPT_AT_FIRST)


class WhatChangesNothing(unittest.TestCase):
    def test_questions(self):
        for call in QUESTIONS:
            with self.subTest(call=call):
                answered = ask(*BEFORE, call, *ALL_KEPT, call)[3:]
                self.assertEqual(answered[1:-1], KEPT_BEFORE)
                self.assertEqual(answered[0], answered[-1])

    def test_questions_at_first(self):
        for call in QUESTIONS:
            with self.subTest(call=call):
                self.assertEqual(ask(call, *ALL_KEPT)[1:], KEPT_AT_FIRST)

    def test_all_questions_one_after_another(self):
        answered = ask(*BEFORE, *QUESTIONS, *QUESTIONS, *ALL_KEPT)[3:]
        many = len(QUESTIONS)
        self.assertEqual(answered[:many], answered[many:2 * many])
        self.assertEqual(answered[2 * many:], KEPT_BEFORE)

    def test_refusals(self):
        for call, refusal in [(call, -1) for call in REFUSED] + [(call, -7) for call in REFUSED_PLANS]:
            with self.subTest(call=call):
                self.assertEqual(ask(*BEFORE, call, *ALL_KEPT)[3:], [[refusal]] + KEPT_BEFORE)

    def test_refusals_one_after_another(self):
        calls = REFUSED + REFUSED_PLANS
        self.assertEqual(
            ask(*BEFORE, *calls, *ALL_KEPT)[3:],
            [[-1]] * len(REFUSED) + [[-7]] * len(REFUSED_PLANS) + KEPT_BEFORE,
        )

    def test_refusals_at_first(self):
        for call in [farms(), sheep(1), pens(), pens(0, 0), pens(-1), pen(1), pen(-1), shed([]), walked([0, 1])]:
            with self.subTest(call=call):
                answered = ask(call, *ALL_KEPT)
                self.assertIn(answered[0], ([-1], [-7]))
                self.assertEqual(answered[1:], KEPT_AT_FIRST)


if __name__ == "__main__":
    unittest.main()
