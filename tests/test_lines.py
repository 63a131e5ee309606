"""A whole line: what is handed in stays, nothing is kept, nothing is printed or brought in."""

import ast
import builtins
import io
import os
import random
import unittest
from contextlib import redirect_stderr, redirect_stdout
from unittest import mock

import sheepgates.sheds
from sheepgates.sheds import answers
from tests import asking, trying
from tests.asking import (
    ask, canbe, clear, cost, counts, depths, farms, least, line, mend, mixed, ordered, orderedtree, pen, pens, row,
    shed, sheep, told, tree, walked, within,
)

CALLS = [
    least(2), tree(3), farms(5, 1, 2, 2), least(2), tree(2), least(3), tree(3), ordered(2), orderedtree(3),
    cost(2, [2, 2, 0, 0, 0, 1, 2, 0, 2, 0, 3]), cost(2, []), depths([0, 0]), depths([]), canbe(2, [1, 2, 3, 3]),
    canbe(3, []), within(2, 2), within(2, 9), sheep(0, 2, 1, 0, 3), sheep(), sheep(4), farms(), farms(1001),
    farms(*[1000] * 8), orderedtree(2), sheep(*[7] * 40), depths([2] * 64), least(7),
    farms(3, 2), shed([2, 0, 1, 0, 0]), sheep(1, 0, 1), shed([2, 0, 1, 0, 0]), walked([2, 0, 0, 0, 1]), walked([0, 0]),
    shed([]), pens(3, 1, 0, 2), pens(), mixed(), mend(), told(), row(), pen(0), pen(1), pen(2), counts(), clear(),
    mixed(), mend(), told(), row(), pen(0), pen(1), counts(), shed([0, 0]), walked([0, 0]),
]


NAMES = [
    "farms", "least", "tree", "ordered", "orderedtree", "cost", "depths", "canbe", "within", "sheep",
    "shed", "walked", "pens", "mixed", "mend", "told", "row", "pen", "counts", "clear",
]


class Watched(list):
    """A list that is not to be changed, not for a while either."""

    def changed(self, *given):
        raise AssertionError("what is handed in was changed")

    append = extend = insert = pop = remove = clear = sort = reverse = changed
    __setitem__ = __delitem__ = __iadd__ = __imul__ = changed


class Lines(unittest.TestCase):
    def test_what_is_handed_in_stays(self):
        calls = line(CALLS)
        before = list(calls)
        answers(calls)
        self.assertEqual(calls, before)
        self.assertEqual(answers(Watched(before)), answers(before))

    def test_asking_twice_gives_the_same_twice(self):
        calls = line(CALLS)
        first = answers(calls)
        again = list(first)
        first.append(9)
        self.assertEqual(answers(calls), again)

    def test_one_answer_changed_does_not_change_the_next(self):
        calls = line([tree(2), told(), pen(0), mixed()])
        first = answers(calls)
        for place in range(len(first)):
            first[place] = 9
        self.assertEqual(answers(calls), [2, 0, 0, 2, 1, 0, 2, 1, 0, 3, 0, 1, 0])

    def test_nothing_is_kept_from_one_line_to_the_next(self):
        questions = [told(), row(), pen(0), counts(), mend(), least(2), shed([0, 0])]
        alone = ask(*questions)
        ask(farms(5, 6), sheep(1, 0), pens(1, 2, 3, 4))
        self.assertEqual(ask(*questions), alone)
        ask(sheep(0, 0), pens(9))
        self.assertEqual(ask(*questions), alone)

    def test_plain_whole_numbers(self):
        answered = answers(line(CALLS))
        self.assertIs(type(answered), list)
        self.assertEqual({type(number) for number in answered}, {int})

    def test_below_0_are_refusals_alone(self):
        for answer in ask(*CALLS):
            self.assertTrue(answer in ([-1], [-7]) or min(answer) >= 0, answer)

    def test_one_call(self):
        self.assertEqual(answers([9, 0]), [1, 0])
        self.assertEqual(answers([1, 2]), [1, 0])
        self.assertEqual(answers([0, 0]), [1, -1])
        self.assertEqual(answers([19]), [1, 0])
        self.assertEqual(answers([18]), [3, 1, 0, 0])
        self.assertEqual(answers([10, 0]), [1, -7])
        self.assertEqual(answers([12, 0]), [1, -1])
        self.assertEqual(answers([16]), [1, 0])

    def test_four_hundred_calls(self):
        calls = []
        told = []
        for number in range(200):
            calls += [farms(number, 1), least(2)]
            told += [[number + 1], [number + 1]]
        self.assertEqual(ask(*calls), told)

    def test_the_longest_lists(self):
        calls = [depths([2] * 64), cost(3, [3] * 64), farms(*[1] * 64), sheep(*[0] * 64), canbe(2, [0] * 64)] * 48
        self.assertEqual(ask(*calls), [[-7], [0], [-1], [-1], [-1]] * 48)

    def test_four_hundred_of_the_later_calls(self):
        plan = [3, 0, 2, 0, 0, 0, 1]
        calls = []
        answered = []
        for number in range(40):
            calls += [
                farms(number, 1, 2), sheep(*[2] * number), shed(plan), walked(plan),
                pens(0, number, 0, 0, 0, 0, 0, 0, 0), mixed(), mend(), pen(0), counts(), clear(),
            ]
            strange = [1, 0] if number else [0]
            answered += [
                [number + 3], [number], [3, 2, number] + list(range(number)) + [0, 0, 1, 0], [number], [number],
                strange + [3, 0, number, 0], [number], [3, 0, number, 0], [3, number + 3, number], [0],
            ]
        self.assertEqual(len(calls), 400)
        self.assertEqual(ask(*calls), answered)

    def test_twenty_of_the_long_calls(self):
        calls = [farms(*range(993, 1001))] + [orderedtree(3), within(3, 8)] * 10
        answered = ask(*calls)
        self.assertEqual(answered[1:], answered[1:3] * 10)

    def test_twenty_of_the_long_calls_among_four_hundred(self):
        chain = [2, 0, 7, 2, 0, 6, 2, 0, 5, 2, 0, 4, 2, 0, 3, 2, 0, 2, 2, 0, 1, 0, 0]
        sheep_told = [3, 1, 4, 1, 5, 9, 2, 6]
        calls = [farms(*sheep_told), sheep(*[7, 0] * 20), pens(*[1] * 64)]
        for number in range(6):
            calls += [ordered(2), orderedtree(3), within(3, 2 + number)]
        calls += [ordered(3), within(2, 3)]
        while len(calls) < 400:
            calls += [walked(chain), mend(), counts()]
        calls = calls[:400]
        slow = trying.Slow()
        first = [slow.farms(*sheep_told), slow.sheep(*[7, 0] * 20), slow.pens(*[1] * 64)]
        for number in range(6):
            first += [slow.ordered(2), slow.orderedtree(3), slow.within(3, 2 + number)]
        first += [slow.ordered(3), slow.within(2, 3)]
        rest = [slow.walked(chain), slow.mend(), slow.counts()] * 200
        self.assertEqual(ask(*calls), (first + rest)[:400])

    def test_a_refusal_is_not_the_end(self):
        self.assertEqual(ask(least(0), depths([]), sheep(1), least(2)), [[-1], [-7], [-1], [0]])


class AgainstTheWords(unittest.TestCase):
    """Long lines of calls in any order, right and wrong ones, beside the slow object."""

    def any_number(self, chance, lowest, highest):
        if chance.random() < 0.04:
            return chance.choice([lowest - 1, highest + 1, asking.LOWEST, asking.HIGHEST])
        return chance.randint(lowest, highest)

    def any_list(self, chance, many, lowest, highest):
        if chance.random() < 0.05:
            many = chance.choice([0, max(many - 1, 0), min(many + 1, 64), 64])
        return [self.any_number(chance, lowest, highest) if chance.random() < 0.3 else chance.randint(lowest, highest)
                for number in range(many)]

    def any_plan(self, chance, many):
        plans = [[0, farm] for farm in range(many)]
        chance.shuffle(plans)
        while len(plans) > 1:
            ways = chance.randint(2, min(3, len(plans)))
            run = [ways] + sum(plans[:ways], [])
            plans = plans[ways:]
            plans.insert(chance.randint(0, len(plans)), run)
        plan = plans[0]
        if chance.random() < 0.25:
            place = chance.randrange(len(plan))
            wrong = [chance.choice([-1, 0, 1, 2, 3, 4, 7, 8, asking.LOWEST, asking.HIGHEST])]
            plan = chance.choice([plan[:place], plan + wrong, plan[:place] + wrong + plan[place + 1:]])
        return plan

    def any_call(self, chance, name, many):
        """The arguments of a call where there are so many farms."""
        if name == "farms":
            return self.any_list(chance, chance.choice([1, 2, 2, 3, 3, 4, 5, 6, 8]), 0, chance.choice([1, 9, 1000]))
        if name in ("least", "tree", "ordered", "orderedtree"):
            return [self.any_number(chance, 2, 3)]
        if name == "cost":
            return [self.any_number(chance, 2, 3), self.any_plan(chance, many)]
        if name in ("depths", "shed", "walked"):
            return [self.any_plan(chance, many + (chance.random() < 0.05))]
        if name == "canbe":
            return [self.any_number(chance, 2, 3), self.any_list(chance, many, 0, chance.choice([3, 8]))]
        if name == "within":
            return [self.any_number(chance, 2, 3), self.any_number(chance, 0, 8)]
        if name == "sheep":
            return self.any_list(chance, chance.choice([0, 1, 5, 12, 40]), 0, many - 1)
        if name == "pens":
            return self.any_list(chance, many * many, 0, chance.choice([1, 2, 1000]))
        if name == "pen":
            return [self.any_number(chance, 0, many - 1)]
        return []

    def check(self, seed):
        chance = random.Random(seed)
        slow = trying.Slow()
        calls = []
        told_by_words = []
        long_calls = 0
        while len(calls) < 200:
            name = chance.choice(NAMES)
            # One farm is soon told of: clear comes seldom.
            if name == "clear" and chance.random() < 0.9:
                continue
            if name in ("ordered", "orderedtree", "within"):
                if long_calls == 20:
                    continue
                long_calls += 1
            given = self.any_call(chance, name, len(slow.sheep_told))
            calls.append(getattr(asking, name)(*given))
            told_by_words.append(slow.answer(name, *given))
        self.assertEqual(ask(*calls), told_by_words)

    def test_lines(self):
        for seed in range(40):
            with self.subTest(seed=seed):
                self.check(seed)


class NothingElse(unittest.TestCase):
    def test_nothing_is_printed_read_or_brought_in(self):
        calls = line(CALLS)

        def refused(*given, **named):
            raise AssertionError("nothing is to be read or brought in")

        printed = io.StringIO()
        with redirect_stdout(printed), redirect_stderr(printed):
            with mock.patch.object(builtins, "open", refused), mock.patch.object(builtins, "input", refused):
                with mock.patch.object(builtins, "__import__", refused):
                    answers(calls)
        self.assertEqual(printed.getvalue(), "")

    def test_the_package_draws_from_no_other(self):
        folder = os.path.dirname(sheepgates.sheds.__file__)
        for name in sorted(os.listdir(folder)):
            if not name.endswith(".py"):
                continue
            with open(os.path.join(folder, name), encoding="ascii") as file:
                parsed = ast.parse(file.read())
            for node in ast.walk(parsed):
                self.assertNotIsInstance(node, (ast.Import, ast.ImportFrom))


if __name__ == "__main__":
    unittest.main()
