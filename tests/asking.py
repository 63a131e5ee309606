"""Writing calls as one list, and taking the answers apart again."""

from sheepgates.sheds import answers

LOWEST = -9223372036854775808
HIGHEST = 9223372036854775807


def with_count(numbers):
    return [len(numbers)] + list(numbers)


def farms(*sheep):
    return [0] + with_count(sheep)


def least(w):
    return [1, w]


def tree(w):
    return [2, w]


def ordered(w):
    return [3, w]


def orderedtree(w):
    return [4, w]


def cost(w, plan):
    return [5, w] + with_count(plan)


def depths(plan):
    return [6] + with_count(plan)


def canbe(w, runs):
    return [7, w] + with_count(runs)


def within(w, most):
    return [8, w, most]


def sheep(*row):
    return [9] + with_count(row)


def apart(answered):
    found = []
    place = 0
    while place < len(answered):
        many = answered[place]
        found.append(answered[place + 1:place + 1 + many])
        place += 1 + many
    return found


def line(calls):
    return [number for call in calls for number in call]


def ask(*calls):
    """The answer of each call, all on one object."""
    answered = apart(answers(line(calls)))
    if len(answered) != len(calls):
        raise AssertionError(f"{len(calls)} calls, {len(answered)} answers")
    return answered


def ask_last(*calls):
    return ask(*calls)[-1]
