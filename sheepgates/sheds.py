"""Shedding: what it costs to part a mixed flock into its farms by runs through a gate."""

FARMS_AT_FIRST = (0,)
MOST_FARMS = 8
MOST_SHEEP_OF_A_FARM = 1000
FEWEST_WAYS = 2
MOST_WAYS = 3
MOST_RUNS = 8
LONGEST_ROW = 40
MOST_OF_A_FARM_IN_A_PEN = 1000

OUT_OF_RANGE = -1
NOT_A_PLAN = -7


class OutOfRange(Exception):
    pass


class NotAPlan(Exception):
    pass


class Flock:
    def __init__(self):
        self.begin_with(FARMS_AT_FIRST)

    def begin_with(self, farms):
        self.farms = list(farms)
        self.row = []
        self.pens = [[0] * len(farms) for farm in farms]


class Plan:
    def __init__(self, sheep, cost, numbers):
        self.sheep = sheep
        self.cost = cost
        self.numbers = numbers


class Line:
    def __init__(self, calls):
        self.calls = calls
        self.place = 0

    def taken(self, many):
        start = self.place
        self.place = start + many
        return self.calls[start:self.place]


def check_number(number, lowest, highest):
    if number < lowest or number > highest:
        raise OutOfRange()


def check_list(numbers, fewest, most, highest):
    check_number(len(numbers), fewest, most)
    for number in numbers:
        check_number(number, 0, highest)


def checked_ways(told):
    check_number(told[0], FEWEST_WAYS, MOST_WAYS)
    return told[0]


def with_count(numbers):
    return [len(numbers)] + numbers


# Making plans

def pens_in_order(farms):
    return [Plan(sheep, 0, [0, farm]) for farm, sheep in enumerate(farms)]


def pens_by_sheep(farms):
    # Sorting keeps the order of equals, so of as many sheep the lesser farm stays first.
    return sorted(pens_in_order(farms), key=lambda pen: pen.sheep)


def joined(plans):
    sheep = sum([plan.sheep for plan in plans])
    cost = sheep + sum([plan.cost for plan in plans])
    numbers = [len(plans)]
    for plan in plans:
        numbers.extend(plan.numbers)
    return Plan(sheep, cost, numbers)


def with_first_joined(plans, ways):
    run = joined(plans[:ways])
    rest = plans[ways:]
    # The rest is sorted by sheep, so how many have no more is also where they end.
    place = len([plan for plan in rest if plan.sheep <= run.sheep])
    rest.insert(place, run)
    return rest


def least_plan(farms, ways):
    plans = pens_by_sheep(farms)
    # A run of three ways takes two plans off the row: only from an odd number does that end at one.
    if ways == 3 and len(plans) % 2 == 0:
        plans = with_first_joined(plans, 2)
    while len(plans) > 1:
        plans = with_first_joined(plans, ways)
    return plans[0]


# The rows of spans that a run over the pens from start up to end may have as its ways.
# They stand in the order in which the document chooses among plans that cost the same.
def splits(start, end, ways):
    found = [[(start, cut), (cut, end)] for cut in range(start + 1, end)]
    if ways == 3:
        for first in range(start + 1, end):
            for second in range(first + 1, end):
                found.append([(start, first), (first, second), (second, end)])
    return found


def first_least_run(least, rows_of_spans):
    chosen = None
    for spans in rows_of_spans:
        if all([span in least for span in spans]):
            run = joined([least[span] for span in spans])
            if chosen is None or run.cost < chosen.cost:
                chosen = run
    return chosen


def with_one_more_run(pens, least, ways):
    further = {}
    for start, pen in enumerate(pens):
        further[(start, start + 1)] = pen
        for end in range(start + 2, len(pens) + 1):
            run = first_least_run(least, splits(start, end, ways))
            if run is not None:
                further[(start, end)] = run
    return further


# The first least plan that keeps the pens in this order, with at most so many runs above each;
# None if there is no such plan.
def least_keeping_order(pens, ways, most):
    # Above nothing no run can stand, so the first round gives the pens alone.
    least = {}
    for runs in range(most + 1):
        least = with_one_more_run(pens, least, ways)
    return least.get((0, len(pens)))


def least_plan_in_order(farms, ways):
    # Each run parts off at least one pen, so no pen can have more runs than there are other pens.
    return least_keeping_order(pens_in_order(farms), ways, len(farms) - 1)


def least_plan_within(farms, ways, most):
    # Pens can change places so that fewer sheep never have fewer runs, which never costs more,
    # and pens so sorted can be had in that order: no other order has to be tried.
    return least_keeping_order(pens_by_sheep(farms), ways, most)


def runs_can_be(runs, ways):
    # From the deepest up: what stands below gates takes as few of them as will hold it,
    # and each of those gates wants a place one run higher.
    places = 0
    for depth in range(MOST_RUNS, 0, -1):
        places = (places + runs.count(depth) + ways - 1) // ways
    return places + runs.count(0) <= 1


# Reading plans

def number_at(numbers, place):
    if place >= len(numbers):
        raise NotAPlan()
    return numbers[place]


# Behind a pen: the runs that had it as their last way are done, the one above them has a way less to come.
def without_way(ways_to_come):
    left = list(ways_to_come)
    while left and left[-1] == 1:
        left.pop()
    if left:
        left[-1] -= 1
    return left


# Each pen of the plan, in the order in which they stand in it: its farm, and how many runs are above it.
def read_pens(numbers, ways):
    pens = []
    ways_to_come = []
    place = 0
    while not pens or ways_to_come:
        first = number_at(numbers, place)
        if first == 0:
            pens.append((number_at(numbers, place + 1), len(ways_to_come)))
            ways_to_come = without_way(ways_to_come)
            place += 2
        elif FEWEST_WAYS <= first <= ways:
            ways_to_come.append(first)
            place += 1
        else:
            raise NotAPlan()
    if place < len(numbers):
        raise NotAPlan()
    return pens


def pens_for_farms(numbers, ways, farms):
    pens = read_pens(numbers, ways)
    if sorted([farm for farm, runs in pens]) != list(range(len(farms))):
        raise NotAPlan()
    return pens


# What a plan costs where each farm has so many sheep: a sheep walks through each run above its pen.
def cost_for(pens, sheep):
    return sum([runs * sheep[farm] for farm, runs in pens])


def places_of(farm, row):
    return [place for place, other in enumerate(row) if other == farm]


# Strangers in pens

def pens_with_strangers(pens):
    return [farm for farm, pen in enumerate(pens) if sum(pen) > pen[farm]]


def strangers_of(farm, pens):
    return sum([pen[farm] for pen in pens]) - pens[farm][farm]


def strangers_by_farm(pens):
    return [strangers_of(farm, pens) for farm in range(len(pens))]


def cost_to_mend(pens):
    strangers = [many for many in strangers_by_farm(pens) if many > 0]
    # There is no least plan for no farms at all.
    if not strangers:
        return 0
    emptied = sum([sum(pens[farm]) for farm in pens_with_strangers(pens)])
    return emptied + least_plan(strangers, 2).cost


# The calls: each is given the flock, the whole numbers told, and the list (empty if the call has none).

def answer_farms(flock, told, given):
    check_list(given, 1, MOST_FARMS, MOST_SHEEP_OF_A_FARM)
    flock.begin_with(given)
    return [sum(given)]


def answer_least(flock, told, given):
    return [least_plan(flock.farms, checked_ways(told)).cost]


def answer_tree(flock, told, given):
    return least_plan(flock.farms, checked_ways(told)).numbers


def answer_ordered(flock, told, given):
    return [least_plan_in_order(flock.farms, checked_ways(told)).cost]


def answer_orderedtree(flock, told, given):
    return least_plan_in_order(flock.farms, checked_ways(told)).numbers


def answer_cost(flock, told, given):
    ways = checked_ways(told)
    try:
        pens = pens_for_farms(given, ways, flock.farms)
    except NotAPlan:
        return [0]
    # A pen takes two numbers and a run one.
    return [1, cost_for(pens, flock.farms), len(given) - 2 * len(pens)]


def answer_depths(flock, told, given):
    pens = pens_for_farms(given, MOST_WAYS, flock.farms)
    return with_count([runs for farm, runs in sorted(pens)])


def answer_canbe(flock, told, given):
    ways = checked_ways(told)
    check_list(given, len(flock.farms), len(flock.farms), MOST_RUNS)
    return [1 if runs_can_be(given, ways) else 0]


def answer_within(flock, told, given):
    ways = checked_ways(told)
    check_number(told[1], 0, MOST_RUNS)
    plan = least_plan_within(flock.farms, ways, told[1])
    return [0] if plan is None else [1, plan.cost]


def answer_sheep(flock, told, given):
    check_list(given, 0, LONGEST_ROW, len(flock.farms) - 1)
    flock.row = list(given)
    return [len(given)]


def answer_shed(flock, told, given):
    pens = pens_for_farms(given, MOST_WAYS, flock.farms)
    answer = [len(pens)]
    for farm, runs in pens:
        answer.extend([farm] + with_count(places_of(farm, flock.row)))
    return answer


def answer_walked(flock, told, given):
    pens = pens_for_farms(given, MOST_WAYS, flock.farms)
    return [cost_for(pens, [flock.row.count(farm) for farm in range(len(flock.farms))])]


def answer_pens(flock, told, given):
    many = len(flock.farms)
    check_list(given, many * many, many * many, MOST_OF_A_FARM_IN_A_PEN)
    flock.pens = [given[farm * many:(farm + 1) * many] for farm in range(many)]
    return [sum(given)]


def answer_mixed(flock, told, given):
    return with_count(pens_with_strangers(flock.pens)) + with_count(strangers_by_farm(flock.pens))


def answer_mend(flock, told, given):
    return [cost_to_mend(flock.pens)]


def answer_told(flock, told, given):
    return with_count(flock.farms)


def answer_row(flock, told, given):
    return with_count(flock.row)


def answer_pen(flock, told, given):
    check_number(told[0], 0, len(flock.farms) - 1)
    return with_count(flock.pens[told[0]])


def answer_counts(flock, told, given):
    return [len(flock.farms), sum(flock.farms), len(flock.row)]


def answer_clear(flock, told, given):
    flock.begin_with(FARMS_AT_FIRST)
    return [0]


# By a call's number: who answers it, how many whole numbers it has, and how many lists behind them.
ANSWERERS = (
    answer_farms, answer_least, answer_tree, answer_ordered, answer_orderedtree,
    answer_cost, answer_depths, answer_canbe, answer_within, answer_sheep,
    answer_shed, answer_walked, answer_pens, answer_mixed, answer_mend,
    answer_told, answer_row, answer_pen, answer_counts, answer_clear,
)
WHOLE_NUMBERS = (0, 1, 1, 1, 1, 1, 0, 1, 2, 0, 0, 0, 0, 0, 0, 0, 0, 1, 0, 0)
LISTS = (1, 0, 0, 0, 0, 1, 1, 1, 0, 1, 1, 1, 1, 0, 0, 0, 0, 0, 0, 0)


def answer_call(flock, number, told, given):
    try:
        return ANSWERERS[number](flock, told, given)
    except OutOfRange:
        return [OUT_OF_RANGE]
    except NotAPlan:
        return [NOT_A_PLAN]


def answer_from(flock, line):
    number = line.taken(1)[0]
    told = line.taken(WHOLE_NUMBERS[number])
    given = []
    if LISTS[number] == 1:
        many = line.taken(1)[0]
        given = line.taken(many)
    return answer_call(flock, number, told, given)


def answers(calls):
    flock = Flock()
    line = Line(calls)
    answered = []
    while line.place < len(calls):
        answer = answer_from(flock, line)
        answered.append(len(answer))
        answered.extend(answer)
    return answered
