"""The document's words by trying every plan: slow, and written apart from the program.

A plan here is a farm, or a tuple of two or three plans.
"""

from functools import lru_cache
from itertools import combinations


def partings(farms, ways):
    """Each way to part a tuple of farms into so many rows that are not empty, whatever their order."""
    if ways == 1:
        yield (farms,)
        return
    first, others = farms[0], farms[1:]
    for many in range(len(others)):
        for mates in combinations(others, many):
            rest = tuple(farm for farm in others if farm not in mates)
            if len(rest) >= ways - 1:
                for parting in partings(rest, ways - 1):
                    yield ((first,) + mates,) + parting


def least_cost(sheep, w, most=99):
    """The least cost of all plans with at most so many runs above each pen, or None."""
    @lru_cache(maxsize=None)
    def best(farms, runs):
        if len(farms) == 1:
            return 0
        if runs == 0:
            return None
        costs = []
        for ways in range(2, w + 1):
            for parting in partings(farms, ways):
                parts = [best(part, runs - 1) for part in parting]
                if None not in parts:
                    costs.append(sum(parts) + sum(sheep[farm] for farm in farms))
        return min(costs, default=None)
    return best(tuple(range(len(sheep))), most)


def depth_rows(farms, w):
    """For every plan for the farms: how many runs each farm has, as a tuple of pairs."""
    if len(farms) == 1:
        return {((farms[0], 0),)}
    found = set()
    for ways in range(2, w + 1):
        for parting in partings(farms, ways):
            rows = [()]
            for part in parting:
                rows = [row + below for row in rows for below in depth_rows(part, w)]
            for row in rows:
                found.add(tuple(sorted((farm, runs + 1) for farm, runs in row)))
    return found


def plans_in_order(start, end, w):
    """Every plan with the pens in the order of the farms, in the order in which the document prefers them."""
    if end - start == 1:
        return [start]
    found = []
    for ways in range(2, w + 1):
        for cuts in combinations(range(start + 1, end), ways - 1):
            bounds = (start,) + cuts + (end,)
            rows = [()]
            for left, right in zip(bounds, bounds[1:]):
                below = plans_in_order(left, right, w)
                rows = [row + (plan,) for row in rows for plan in below]
            found.extend(rows)
    return found


def farms_of(plan):
    if isinstance(plan, int):
        return [plan]
    return [farm for way in plan for farm in farms_of(way)]


def cost_of(plan, sheep):
    if isinstance(plan, int):
        return 0
    return sum(sheep[farm] for farm in farms_of(plan)) + sum(cost_of(way, sheep) for way in plan)


def runs_of(plan):
    if isinstance(plan, int):
        return 0
    return 1 + sum(runs_of(way) for way in plan)


def depths_of(plan, above=0):
    if isinstance(plan, int):
        return {plan: above}
    found = {}
    for way in plan:
        found.update(depths_of(way, above + 1))
    return found


def as_numbers(plan):
    if isinstance(plan, int):
        return [0, plan]
    return [len(plan)] + [number for way in plan for number in as_numbers(way)]


def first_in_order(sheep, w):
    """The least plan in order: min keeps the first of several."""
    return min(plans_in_order(0, len(sheep), w), key=lambda plan: cost_of(plan, sheep))


def fits(runs, w):
    """Whether some plan has no more runs of each farm than told."""
    @lru_cache(maxsize=None)
    def below(farms, above):
        if any(runs[farm] < above for farm in farms):
            return False
        if len(farms) == 1:
            return True
        return any(
            all(below(part, above + 1) for part in parting)
            for ways in range(2, w + 1) for parting in partings(farms, ways)
        )
    return below(tuple(range(len(runs))), 0)


def pens_of_sheep(plan, places, row):
    """Each pen in the order of the plan, with the places of the sheep that come to it run by run."""
    if isinstance(plan, int):
        return [(plan, places)]
    found = []
    for way in plan:
        going = [place for place in places if row[place] in farms_of(way)]
        found += pens_of_sheep(way, going, row)
    return found


def shed_of(plan, row, many):
    told = [many]
    for farm, places in pens_of_sheep(plan, list(range(len(row))), row):
        told += [farm, len(places)] + places
    return told


def walked_of(plan, row):
    if isinstance(plan, int):
        return 0
    return len(row) + sum(walked_of(way, [farm for farm in row if farm in farms_of(way)]) for way in plan)


def mixed_of(pens):
    """The pens with strangers, and how many strangers there are of each farm."""
    strangers = [0] * len(pens)
    strange = []
    for p, pen in enumerate(pens):
        for farm, many in enumerate(pen):
            if farm != p and many > 0:
                strangers[farm] += many
                if p not in strange:
                    strange.append(p)
    return strange, strangers


def mend_of(pens):
    strange, strangers = mixed_of(pens)
    some = [many for many in strangers if many]
    return sum(sum(pens[p]) for p in strange) + (least_cost(some, 2) if some else 0)


def read(numbers, w):
    """The plan that the numbers are, or None."""
    def one(place):
        first = numbers[place]
        if first == 0:
            return numbers[place + 1], place + 2
        if not 2 <= first <= w:
            raise ValueError
        ways = []
        place += 1
        for way in range(first):
            plan, place = one(place)
            ways.append(plan)
        return tuple(ways), place
    try:
        plan, end = one(0)
    except (IndexError, ValueError):
        return None
    return plan if end == len(numbers) else None


def read_for(numbers, w, many):
    plan = read(numbers, w)
    return plan if plan is not None and sorted(farms_of(plan)) == list(range(many)) else None


def least_told(sheep, w):
    """The least plan as the document tells it: a row of plans with how many sheep each has."""
    def put(row, new):
        at = sum(1 for other in row if other[0] <= new[0])
        return row[:at] + [new] + row[at:]

    def join(row, many):
        first = row[:many]
        return put(row[many:], (sum(each[0] for each in first), tuple(each[1] for each in first)))

    row = []
    for farm, many in enumerate(sheep):
        row = put(row, (many, farm))
    if w == 3 and len(row) % 2 == 0:
        row = join(row, 2)
    while len(row) > 1:
        row = join(row, w)
    return row[0][1]


class Refused(Exception):
    pass


def asked(right, number=-1):
    if not right:
        raise Refused(number)


class Slow:
    """The object as the document tells it, call by call."""

    def __init__(self):
        self.clear()

    def answer(self, name, *given):
        try:
            return getattr(self, name)(*given)
        except Refused as refused:
            return [refused.args[0]]

    def plan(self, numbers):
        plan = read_for(numbers, 3, len(self.sheep_told))
        asked(plan is not None, -7)
        return plan

    def farms(self, *sheep):
        asked(1 <= len(sheep) <= 8 and all(0 <= many <= 1000 for many in sheep))
        self.sheep_told = list(sheep)
        self.places = []
        self.penned = [[0 for farm in sheep] for p in sheep]
        return [sum(sheep)]

    def least(self, w):
        asked(w in (2, 3))
        return [least_cost(self.sheep_told, w)]

    def tree(self, w):
        asked(w in (2, 3))
        return as_numbers(least_told(self.sheep_told, w))

    def ordered(self, w):
        asked(w in (2, 3))
        return [cost_of(first_in_order(self.sheep_told, w), self.sheep_told)]

    def orderedtree(self, w):
        asked(w in (2, 3))
        return as_numbers(first_in_order(self.sheep_told, w))

    def cost(self, w, numbers):
        asked(w in (2, 3))
        plan = read_for(numbers, w, len(self.sheep_told))
        return [0] if plan is None else [1, cost_of(plan, self.sheep_told), runs_of(plan)]

    def depths(self, numbers):
        found = depths_of(self.plan(numbers))
        return [len(found)] + [found[farm] for farm in sorted(found)]

    def canbe(self, w, runs):
        asked(w in (2, 3) and len(runs) == len(self.sheep_told) and all(0 <= most <= 8 for most in runs))
        return [1 if fits(tuple(runs), w) else 0]

    def within(self, w, most):
        asked(w in (2, 3) and 0 <= most <= 8)
        found = least_cost(self.sheep_told, w, most)
        return [0] if found is None else [1, found]

    def sheep(self, *row):
        asked(len(row) <= 40 and all(0 <= farm < len(self.sheep_told) for farm in row))
        self.places = list(row)
        return [len(row)]

    def shed(self, numbers):
        return shed_of(self.plan(numbers), self.places, len(self.sheep_told))

    def walked(self, numbers):
        return [walked_of(self.plan(numbers), self.places)]

    def pens(self, *many):
        n = len(self.sheep_told)
        asked(len(many) == n * n and all(0 <= number <= 1000 for number in many))
        self.penned = [[many[n * p + farm] for farm in range(n)] for p in range(n)]
        return [sum(many)]

    def mixed(self):
        strange, strangers = mixed_of(self.penned)
        return [len(strange)] + strange + [len(strangers)] + strangers

    def mend(self):
        return [mend_of(self.penned)]

    def told(self):
        return [len(self.sheep_told)] + self.sheep_told

    def row(self):
        return [len(self.places)] + self.places

    def pen(self, p):
        asked(0 <= p < len(self.sheep_told))
        return [len(self.sheep_told)] + self.penned[p]

    def counts(self):
        return [len(self.sheep_told), sum(self.sheep_told), len(self.places)]

    def clear(self):
        self.farms(0)
        return [0]
