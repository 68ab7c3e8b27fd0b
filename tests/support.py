"""What the tests share: writing calls, reading answers, and a search over all plans."""

import itertools

from truckloads.trips import answers

GREATEST = 4294967295

NUMBER_OF = {
    "create": 0,
    "set_capacity": 1,
    "add_item": 2,
    "remove_item": 3,
    "list_items": 4,
    "set_incompatible": 5,
    "set_distance": 6,
    "in_conflict": 7,
    "min_trips": 8,
    "first_minimal_plan": 9,
    "shortest_plan": 10,
    "valid_plan_count": 11,
    "first_fit": 12,
    "lower_bounds": 13,
    "assign_item": 14,
    "get_plan": 15,
    "is_plan_valid": 16,
    "plan_length": 17,
    "trip_info": 18,
    "loading_order": 19,
    "use_shortest_plan": 20,
    "remaining_capacity": 21,
    "min_trips_with_item": 22,
    "min_trips_with_capacity": 23,
    "min_trips_without_item": 24,
    "summary": 25,
}


def written(calls):
    """The list of whole numbers for calls such as ("add_item", 6, 0, 0)."""
    numbers = []
    for call in calls:
        numbers.append(NUMBER_OF[call[0]])
        numbers.extend(call[1:])
    return numbers


def taken_apart(flat):
    """The answer of each call, as a list of its numbers."""
    parts = []
    start = 0
    while start < len(flat):
        end = start + 1 + flat[start]
        parts.append(flat[start + 1:end])
        start = end
    return parts


def ask(*calls):
    """What each of the calls answers, on one new object."""
    numbers = written(calls)
    if len(calls) > 40 or len(numbers) > 160:
        raise AssertionError(f"a request of {len(calls)} calls and {len(numbers)} numbers is never handed in")
    found = taken_apart(answers(numbers))
    if len(found) != len(calls):
        raise AssertionError(f"{len(calls)} calls, but {len(found)} answers")
    return found


def ask_last(*calls):
    """What the last of the calls answers."""
    return ask(*calls)[-1]


class Load:
    """An input: what an instance is made of, told apart from the package's own classes."""

    def __init__(self, capacity, goods=(), pairs=(), distances=()):
        self.capacity = capacity
        self.goods = list(goods)
        self.pairs = list(pairs)
        self.distances = list(distances) + [0] * (6 - len(distances))

    def calls(self):
        """The calls that build it; at most 24 of them."""
        built = [("create", self.capacity)]
        built += [("add_item", *item) for item in self.goods]
        built += [("set_incompatible", a, b, 1) for a, b in self.pairs]
        built += [("set_distance", s, d) for s, d in enumerate(self.distances) if d]
        return built

    def ask(self, *calls):
        """What the calls answer once the load is built."""
        return ask(*self.calls(), *calls)[-len(calls):]

    def changed(self, **values):
        """Another load that has these values in the place of its own."""
        held = {"capacity": self.capacity, "goods": self.goods, "pairs": self.pairs, "distances": self.distances}
        return Load(**{**held, **values})

    def without(self, item):
        """Another load without this item."""
        return self.changed(goods=self.goods[:item] + self.goods[item + 1:])

    def pair_allowed(self, a, b):
        """Whether the items a and b may be in the same trip, their weights aside."""
        first, second = self.goods[a][1], self.goods[b][1]
        return (first, second) not in self.pairs and (second, first) not in self.pairs

    def groups(self, plan):
        """The items of each trip that the plan uses."""
        return [[i for i, t in enumerate(plan) if t == trip] for trip in sorted(set(plan))]

    def allows(self, plan):
        """Whether every trip of the plan is valid."""
        for group in self.groups(plan):
            if sum(self.goods[i][0] for i in group) > self.capacity:
                return False
            if not all(self.pair_allowed(a, b) for a, b in itertools.combinations(group, 2)):
                return False
        return True

    def length(self, plan):
        """The sum of the lengths of the trips."""
        return sum(2 * max(self.distances[self.goods[i][2]] for i in group) for group in self.groups(plan))

    def all_valid_plans(self, k):
        """All valid plans, canonical or not, with trip numbers less than k."""
        every = itertools.product(range(k), repeat=len(self.goods))
        return [list(plan) for plan in every if self.allows(plan)]


def fewest_trips(load):
    """What min_trips is to answer, by a search over all plans, canonical or not."""
    plans = load.all_valid_plans(len(load.goods))
    return [min(len(set(plan)) for plan in plans)] if plans else [-33]


def canonical(plan):
    """The canonical plan with the same trips."""
    names = {}
    return [names.setdefault(trip, len(names)) for trip in plan]


def random_load(chance, most_items):
    """A load whose numbers are drawn from the given, seeded source."""
    capacity = chance.randint(1, 60)
    heaviest = min(30, max(1, capacity * chance.randint(1, 8) // 6))
    goods = [
        (chance.randint(1, heaviest), chance.randint(0, 3), chance.randint(0, 5))
        for _ in range(chance.randint(0, most_items))
    ]
    every_pair = [(a, b) for a in range(4) for b in range(a, 4)]
    pairs = chance.sample(every_pair, chance.choice([0, 0, 1, 2, 3, 6]))
    distances = [chance.choice([0, 1, 5, 5, 20, 49, 50]) for _ in range(6)]
    return Load(capacity, goods, pairs, distances)
