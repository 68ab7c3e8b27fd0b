"""The document's operations once more, told apart from the package's code and without regard to speed.

Every search goes over all canonical plans and drops those that are not valid.
"""

class Refused(Exception):
    """An operation that returns an error; its argument is the code."""


def need(condition, code):
    if not condition:
        raise Refused(code)


def canonical_plans(count):
    """All canonical plans of so many items."""
    plans = [[]]
    for _ in range(count):
        plans = [plan + [trip] for plan in plans for trip in range(len(set(plan)) + 1)]
    return plans


CANONICAL_PLANS = [canonical_plans(count) for count in range(8)]


class Model:
    """One object; `answer` takes calls such as ("add_item", 6, 0, 0)."""

    def __init__(self):
        self.capacity = None

    def answer(self, call):
        name, *numbers = call
        if name != "create" and self.capacity is None:
            return [-11]
        try:
            return getattr(self, name)(*numbers)
        except Refused as refused:
            return [refused.args[0]]

    def apart(self, a, b):
        first, second = self.goods[a], self.goods[b]
        heavy = first[0] + second[0] > self.capacity
        return a != b and (heavy or frozenset((first[1], second[1])) in self.pairs)

    def everything(self):
        return range(len(self.goods))

    def weight(self, group):
        return sum(self.goods[item][0] for item in group)

    def fits(self, group):
        return self.weight(group) <= self.capacity and not any(self.apart(a, b) for a in group for b in group)

    def far(self, item):
        return self.distances[self.goods[item][2]]

    def length(self, group):
        return 2 * max([self.far(item) for item in group] + [0])

    def groups(self, plan):
        return [self.group(plan, trip) for trip in set(plan)]

    def group(self, plan, trip):
        return [item for item in range(len(plan)) if plan[item] == trip]

    def plans(self, k):
        every = CANONICAL_PLANS[len(self.goods)]
        return [p for p in every if len(set(p)) <= k and all(self.fits(group) for group in self.groups(p))]

    def fewest(self):
        plans = self.plans(7)
        need(plans, -33)
        return min(len(set(plan)) for plan in plans)

    def create(self, capacity):
        need(1 <= capacity <= 60, -22)
        self.capacity, self.goods, self.pairs, self.distances, self.plan = capacity, [], set(), [0] * 6, []
        return [0]

    def set_capacity(self, capacity):
        need(1 <= capacity <= 60, -22)
        old, self.capacity = self.capacity, capacity
        return [old]

    def add_item(self, weight, category, stop):
        need(1 <= weight <= 30 and category <= 3 and stop <= 5, -22)
        need(len(self.goods) < 7, -28)
        self.goods = self.goods + [(weight, category, stop)]
        self.plan = self.plan + [0]
        return [len(self.goods) - 1]

    def remove_item(self, item):
        need(item < len(self.goods), -2)
        self.goods = self.goods[:item] + self.goods[item + 1:]
        self.plan = self.plan[:item] + self.plan[item + 1:]
        return [len(self.goods)]

    def list_items(self):
        return [len(self.goods)] + [number for item in self.goods for number in item]

    def set_incompatible(self, a, b, incompatible):
        need(a <= 3 and b <= 3 and incompatible <= 1, -22)
        pair = frozenset((a, b))
        old = int(pair in self.pairs)
        self.pairs = self.pairs | {pair} if incompatible else self.pairs - {pair}
        return [old]

    def set_distance(self, stop, distance):
        need(stop <= 5 and distance <= 50, -22)
        old, self.distances[stop] = self.distances[stop], distance
        return [old]

    def in_conflict(self, a, b):
        need(a < len(self.goods) and b < len(self.goods), -2)
        return [int(self.apart(a, b))]

    def min_trips(self):
        return [self.fewest()]

    def first_minimal_plan(self):
        return [len(self.goods)] + min(self.plans(self.fewest()))

    def shortest_plan(self, k):
        need(k <= 7, -22)
        found = [[self.whole_length(plan)] + plan for plan in self.plans(k)]
        need(found, -33)
        return min(found)

    def whole_length(self, plan):
        return sum(self.length(group) for group in self.groups(plan))

    def valid_plan_count(self, k):
        need(k <= 7, -22)
        return [len(self.plans(k))]

    def first_fit(self):
        plan = []
        for item in self.everything():
            fitting = [trip for trip in range(7) if self.fits(self.group(plan, trip) + [item])]
            plan.append(fitting[0] if fitting and fitting[0] in plan else len(set(plan)))
        return [len(set(plan))] + plan

    def lower_bounds(self):
        sets = [(0, 0)]
        for number in range(2 ** len(self.goods)):
            group = [item for item in self.everything() if number // 2**item % 2]
            if all(self.apart(a, b) for a in group for b in group if a < b):
                sets.append((len(group), number))
        size = max(sets)[0]
        return [-(-self.weight(self.everything()) // self.capacity), size, min(n for s, n in sets if s == size)]

    def assign_item(self, item, trip):
        need(item < len(self.goods), -2)
        need(trip <= 6, -22)
        old, self.plan[item] = self.plan[item], trip
        return [old]

    def get_plan(self):
        return [len(self.plan)] + self.plan

    def is_plan_valid(self):
        return [int(all(self.fits(group) for group in self.groups(self.plan)))]

    def plan_length(self):
        return [self.whole_length(self.plan), len([trip for trip in range(7) if trip in self.plan])]

    def trip_info(self, trip):
        need(trip <= 6, -2)
        group = self.group(self.plan, trip)
        return [len(group), self.weight(group), self.length(group), int(self.fits(group))]

    def loading_order(self, trip):
        need(trip <= 6, -2)
        group = self.group(self.plan, trip)
        return [len(group)] + sorted(group, key=lambda item: (50 - self.far(item), item))

    def use_shortest_plan(self, k):
        length, *self.plan = self.shortest_plan(k)
        return [length]

    def remaining_capacity(self, trip):
        need(trip <= 6, -2)
        weight = self.weight(self.group(self.plan, trip))
        return [self.capacity - weight if weight < self.capacity else 0]

    def after(self, change, *numbers):
        """The minimum number of trips after the change, which is then taken back."""
        held = (self.capacity, self.goods, self.plan)
        try:
            change(*numbers)
            return [self.fewest()]
        finally:
            self.capacity, self.goods, self.plan = held

    def min_trips_with_item(self, weight, category, stop):
        return self.after(self.add_item, weight, category, stop)

    def min_trips_with_capacity(self, capacity):
        return self.after(self.set_capacity, capacity)

    def min_trips_without_item(self, item):
        return self.after(self.remove_item, item)

    def summary(self):
        total = self.weight(self.everything())
        return [len(self.goods), self.capacity, total, len(self.pairs)] + self.distances
