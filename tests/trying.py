"""The document's words by trying every plan: slow, and written apart from the program.

A plan here is a farm, or a tuple of two or three plans.
"""

from functools import lru_cache
from itertools import combinations


def partings(farms, ways):
    """Each way to part a tuple of farms into so many rows that are not empty, whatever their order."""
    if ways == 1:
        yield (farms,)
        return
    first, others = farms[0], farms[1:]
    for many in range(len(others)):
        for mates in combinations(others, many):
            rest = tuple(farm for farm in others if farm not in mates)
            if len(rest) >= ways - 1:
                for parting in partings(rest, ways - 1):
                    yield ((first,) + mates,) + parting


def least_cost(sheep, w, most=99):
    """The least cost of all plans with at most so many runs above each pen, or None."""
    @lru_cache(maxsize=None)
    def best(farms, runs):
        if len(farms) == 1:
            return 0
        if runs == 0:
            return None
        costs = []
        for ways in range(2, w + 1):
            for parting in partings(farms, ways):
                parts = [best(part, runs - 1) for part in parting]
                if None not in parts:
                    costs.append(sum(parts) + sum(sheep[farm] for farm in farms))
        return min(costs, default=None)
    return best(tuple(range(len(sheep))), most)


def depth_rows(farms, w):
    """For every plan for the farms: how many runs each farm has, as a tuple of pairs."""
    if len(farms) == 1:
        return {((farms[0], 0),)}
    found = set()
    for ways in range(2, w + 1):
        for parting in partings(farms, ways):
            rows = [()]
            for part in parting:
                rows = [row + below for row in rows for below in depth_rows(part, w)]
            for row in rows:
                found.add(tuple(sorted((farm, runs + 1) for farm, runs in row)))
    return found


def plans_in_order(start, end, w):
    """Every plan with the pens in the order of the farms, in the order in which the document prefers them."""
    if end - start == 1:
        return [start]
    found = []
    for ways in range(2, w + 1):
        for cuts in combinations(range(start + 1, end), ways - 1):
            bounds = (start,) + cuts + (end,)
            rows = [()]
            for left, right in zip(bounds, bounds[1:]):
                below = plans_in_order(left, right, w)
                rows = [row + (plan,) for row in rows for plan in below]
            found.extend(rows)
    return found


def farms_of(plan):
    if isinstance(plan, int):
        return [plan]
    return [farm for way in plan for farm in farms_of(way)]


def cost_of(plan, sheep):
    if isinstance(plan, int):
        return 0
    return sum(sheep[farm] for farm in farms_of(plan)) + sum(cost_of(way, sheep) for way in plan)


def runs_of(plan):
    if isinstance(plan, int):
        return 0
    return 1 + sum(runs_of(way) for way in plan)


def depths_of(plan, above=0):
    if isinstance(plan, int):
        return {plan: above}
    found = {}
    for way in plan:
        found.update(depths_of(way, above + 1))
    return found


def as_numbers(plan):
    if isinstance(plan, int):
        return [0, plan]
    return [len(plan)] + [number for way in plan for number in as_numbers(way)]


def first_in_order(sheep, w):
    """The least plan in order: min keeps the first of several."""
    return min(plans_in_order(0, len(sheep), w), key=lambda plan: cost_of(plan, sheep))
