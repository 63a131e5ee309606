"""A whole line: what is handed in stays, nothing is kept, nothing is printed or brought in."""

import ast
import builtins
import io
import os
import unittest
from contextlib import redirect_stderr, redirect_stdout
from unittest import mock

import sheepgates.sheds
from sheepgates.sheds import answers
from tests.asking import (
    ask, canbe, cost, depths, farms, least, line, ordered, orderedtree, sheep, tree, within,
)

CALLS = [
    least(2), tree(3), farms(5, 1, 2, 2), least(2), tree(2), least(3), tree(3), ordered(2), orderedtree(3),
    cost(2, [2, 2, 0, 0, 0, 1, 2, 0, 2, 0, 3]), cost(2, []), depths([0, 0]), depths([]), canbe(2, [1, 2, 3, 3]),
    canbe(3, []), within(2, 2), within(2, 9), sheep(0, 2, 1, 0, 3), sheep(), sheep(4), farms(), farms(1001),
    farms(*[1000] * 8), orderedtree(2), sheep(*[7] * 40), depths([2] * 64), least(7),
]


class Watched(list):
    """A list that is not to be changed, not for a while either."""

    def changed(self, *given):
        raise AssertionError("what is handed in was changed")

    append = extend = insert = pop = remove = clear = sort = reverse = changed
    __setitem__ = __delitem__ = __iadd__ = __imul__ = changed


class Lines(unittest.TestCase):
    def test_what_is_handed_in_stays(self):
        calls = line(CALLS)
        before = list(calls)
        answers(calls)
        self.assertEqual(calls, before)
        self.assertEqual(answers(Watched(before)), answers(before))

    def test_asking_twice_gives_the_same_twice(self):
        calls = line(CALLS)
        first = answers(calls)
        again = list(first)
        first.append(9)
        self.assertEqual(answers(calls), again)

    def test_one_answer_changed_does_not_change_the_next(self):
        calls = line([tree(2)])
        first = answers(calls)
        first[1] = 9
        self.assertEqual(answers(calls), [2, 0, 0])

    def test_plain_whole_numbers(self):
        answered = answers(line(CALLS))
        self.assertIs(type(answered), list)
        self.assertEqual({type(number) for number in answered}, {int})

    def test_below_0_are_refusals_alone(self):
        for answer in ask(*CALLS):
            self.assertTrue(answer in ([-1], [-7]) or min(answer) >= 0, answer)

    def test_one_call(self):
        self.assertEqual(answers([9, 0]), [1, 0])
        self.assertEqual(answers([1, 2]), [1, 0])
        self.assertEqual(answers([0, 0]), [1, -1])

    def test_four_hundred_calls(self):
        calls = []
        told = []
        for number in range(200):
            calls += [farms(number, 1), least(2)]
            told += [[number + 1], [number + 1]]
        self.assertEqual(ask(*calls), told)

    def test_the_longest_lists(self):
        calls = [depths([2] * 64), cost(3, [3] * 64), farms(*[1] * 64), sheep(*[0] * 64), canbe(2, [0] * 64)] * 48
        self.assertEqual(ask(*calls), [[-7], [0], [-1], [-1], [-1]] * 48)

    def test_twenty_of_the_long_calls(self):
        calls = [farms(*range(993, 1001))] + [orderedtree(3), within(3, 8)] * 10
        answered = ask(*calls)
        self.assertEqual(answered[1:], answered[1:3] * 10)

    def test_a_refusal_is_not_the_end(self):
        self.assertEqual(ask(least(0), depths([]), sheep(1), least(2)), [[-1], [-7], [-1], [0]])


class NothingElse(unittest.TestCase):
    def test_nothing_is_printed_read_or_brought_in(self):
        calls = line(CALLS)

        def refused(*given, **named):
            raise AssertionError("nothing is to be read or brought in")

        printed = io.StringIO()
        with redirect_stdout(printed), redirect_stderr(printed):
            with mock.patch.object(builtins, "open", refused), mock.patch.object(builtins, "input", refused):
                with mock.patch.object(builtins, "__import__", refused):
                    answers(calls)
        self.assertEqual(printed.getvalue(), "")

    def test_the_package_draws_from_no_other(self):
        folder = os.path.dirname(sheepgates.sheds.__file__)
        for name in sorted(os.listdir(folder)):
            if not name.endswith(".py"):
                continue
            with open(os.path.join(folder, name), encoding="ascii") as file:
                parsed = ast.parse(file.read())
            for node in ast.walk(parsed):
                self.assertNotIsInstance(node, (ast.Import, ast.ImportFrom))


if __name__ == "__main__":
    unittest.main()
