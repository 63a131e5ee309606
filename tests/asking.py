"""Writing calls as one list, and taking the answers apart again."""

from sheepgates.sheds import answers

LOWEST = -9223372036854775808
HIGHEST = 9223372036854775807

WRONG_FARMS = [
    [], [0] * 9, [1] * 64, [-1], [1001], [5, 1001], [-1, 5], [3, 1, -1], [LOWEST], [HIGHEST],
    [1, 2, HIGHEST], [LOWEST, 2, 3], [0, 0, 0, 0, 0, 0, 0, 1001],
]

# For three farms: no plan, or not one for these farms.
NO_PLANS = [
    [],
    [0],
    [2],
    [3],
    [0, 0],
    [0, 2],
    [1, 0, 0],
    [4, 0, 0, 0, 1, 0, 2, 0, 3],
    [-2, 0, 0, 0, 1],
    [LOWEST],
    [HIGHEST],
    [0, LOWEST],
    [0, HIGHEST],
    [2, 0, 0, 0, 1],
    [2, 0, 0, 2, 0, 1],
    [2, 0, 0, 2, 0, 1, 0],
    [2, 0, 0, 2, 0, 1, 2],
    [3, 0, 0, 0, 1],
    [3, 0, 0, 0, 1, 0],
    [3, 0, 0, 0, 1, 0, 1],
    [3, 0, 0, 0, 0, 0, 0],
    [3, 0, 0, 0, 1, 0, 3],
    [3, 0, 0, 0, 1, 0, 7],
    [3, 0, 0, 0, 1, 0, 8],
    [3, 0, 0, 0, 1, 0, -1],
    [3, 0, 0, 0, 1, 0, LOWEST],
    [3, 0, 0, 0, 1, 0, HIGHEST],
    [3, 1, 0, 0, 1, 0, 2],
    [3, 0, 0, 0, 1, 1, 2],
    [3, 0, 0, 0, 1, 0, 2, 0],
    [3, 0, 0, 0, 1, 0, 2, 0, 2],
    [3, 0, 0, 0, 1, 0, 2, 2],
    [3, 0, 0, 0, 1, 0, 2, 3, 0, 0, 0, 1, 0, 2],
    [2, 0, 0, 2, 0, 1, 0, 2, 0, 0],
    [2, 2, 0, 0, 0, 1, 2, 0, 1, 0, 2],
    [2, 2, 0, 0, 0, 1, 2, 0, 2, 0, 3],
    [1, 3, 0, 0, 0, 1, 0, 2],
    [1, 0, 0],
    [2, 0, 0, 1, 0, 1],
    [0] * 64,
    [2] * 64,
    [3] * 64,
    [2, 0, 0] * 21 + [0],
    [3, 0, 0, 0, 1, 0, 2] + [0] * 57,
    [LOWEST] * 64,
    [HIGHEST] * 64,
]


def with_count(numbers):
    return [len(numbers)] + list(numbers)


def farms(*sheep):
    return [0] + with_count(sheep)


def least(w):
    return [1, w]


def tree(w):
    return [2, w]


def ordered(w):
    return [3, w]


def orderedtree(w):
    return [4, w]


def cost(w, plan):
    return [5, w] + with_count(plan)


def depths(plan):
    return [6] + with_count(plan)


def canbe(w, runs):
    return [7, w] + with_count(runs)


def within(w, most):
    return [8, w, most]


def sheep(*row):
    return [9] + with_count(row)


def shed(plan):
    return [10] + with_count(plan)


def walked(plan):
    return [11] + with_count(plan)


def pens(*many):
    return [12] + with_count(many)


def mixed():
    return [13]


def mend():
    return [14]


def told():
    return [15]


def row():
    return [16]


def pen(p):
    return [17, p]


def counts():
    return [18]


def clear():
    return [19]


# All that is kept, as far as the calls tell it; the ninth pen is never there.
ALL_KEPT = [told(), row(), counts(), mixed(), mend()] + [pen(p) for p in range(9)]


def apart(answered):
    found = []
    place = 0
    while place < len(answered):
        many = answered[place]
        found.append(answered[place + 1:place + 1 + many])
        place += 1 + many
    return found


def line(calls):
    return [number for call in calls for number in call]


def check_line(calls):
    """Only such lines are handed in."""
    slow = [call for call in calls if call[0] in (3, 4, 8)]
    if not 1 <= len(calls) <= 400 or len(slow) > 20 or len(line(calls)) > 16000:
        raise AssertionError("no line that is handed in")


def ask(*calls):
    """The answer of each call, all on one object."""
    check_line(calls)
    answered = apart(answers(line(calls)))
    if len(answered) != len(calls):
        raise AssertionError(f"{len(calls)} calls, {len(answered)} answers")
    return answered


def ask_last(*calls):
    return ask(*calls)[-1]
