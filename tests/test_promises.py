"""The promises 1 to 6 on many inputs, against a search over all plans."""

import itertools
import random
import unittest

from support import GREATEST, Load, ask, canonical, fewest_trips, random_load


class SearchOverAllPlans(unittest.TestCase):
    """Each load's answers beside those of a search over all plans, canonical or not."""

    def check(self, load):
        count = len(load.goods)
        calls = [("min_trips",), ("first_minimal_plan",), ("first_fit",)]
        calls += [("shortest_plan", k) for k in range(count + 2) if k <= 7]
        calls += [("valid_plan_count", k) for k in range(count + 2) if k <= 7]
        found = iter(load.ask(*calls))
        plans = load.all_valid_plans(count)
        told = (load.capacity, load.goods, load.pairs, load.distances)
        self.check_minimum(next(found), next(found), plans, count, told)
        self.check_first_fit(next(found), load, told)
        for call, answer in zip(calls[3:], found):
            few = [plan for plan in plans if max(plan, default=-1) < call[1]]
            if call[0] == "valid_plan_count":
                self.assertEqual(answer, [len({tuple(canonical(plan)) for plan in few})], told)
            elif few:
                # Renaming the trips of a plan to make it canonical never makes it greater,
                # so the smallest of all plans is the smallest canonical one.
                best = min(few, key=lambda plan: (load.length(plan), plan))
                self.assertEqual(answer, [load.length(best)] + best, told)
            else:
                self.assertEqual(answer, [-33], told)

    def check_minimum(self, minimum, first_plan, plans, count, told):
        if not plans:
            self.assertEqual((minimum, first_plan), ([-33], [-33]), told)
            return
        fewest = min(len(set(plan)) for plan in plans)
        self.assertEqual(minimum, [fewest], told)
        smallest = min(plan for plan in plans if max(plan, default=-1) < fewest)
        self.assertEqual(first_plan, [count] + smallest, told)

    def check_first_fit(self, answer, load, told):
        trips = []
        expected = []
        for item, (weight, category, stop) in enumerate(load.goods):
            place = 0
            while place < len(trips) and not self.fits(load, trips[place] + [item]):
                place += 1
            if place == len(trips):
                trips.append([])
            trips[place].append(item)
            expected.append(place)
        self.assertEqual(answer, [len(trips)] + expected, told)

    def fits(self, load, group):
        light = sum(load.goods[item][0] for item in group) <= load.capacity
        return light and all(load.pair_allowed(a, b) for a, b in itertools.combinations(group, 2))

    def test_small_random_loads(self):
        chance = random.Random(1)
        for _ in range(500):
            self.check(random_load(chance, 4))

    def test_larger_random_loads(self):
        chance = random.Random(2)
        for _ in range(60):
            self.check(random_load(chance, 5))

    def test_six_items(self):
        goods = [(6, 0, 0), (5, 1, 1), (4, 2, 2), (3, 3, 3), (2, 0, 4), (1, 1, 5)]
        self.check(Load(12, goods, [(0, 1)], [3, 9, 9, 0, 50, 1]))

    def test_all_small_loads_of_one_shape(self):
        for weights in itertools.product((1, 2, 3), repeat=3):
            for pairs in ([], [(0, 0)], [(0, 1)], [(1, 1), (0, 1)]):
                goods = [(weight, item % 2, item) for item, weight in enumerate(weights)]
                self.check(Load(3, goods, pairs, [2, 7, 0]))


class SearchAfterAChange(unittest.TestCase):
    """The minimum number of trips after a change that is not made, beside a search over all plans of the changed load."""

    def check(self, load, chance):
        item = (chance.randint(1, 30), chance.randint(0, 3), chance.randint(0, 5))
        capacities = [chance.randint(1, 60), chance.randint(1, 60)]
        calls = [("min_trips_with_item", *item)] + [("min_trips_with_capacity", c) for c in capacities]
        calls += [("min_trips_without_item", i) for i in range(len(load.goods))]
        changed = [load.changed(goods=load.goods + [item])] + [load.changed(capacity=c) for c in capacities]
        changed += [load.without(i) for i in range(len(load.goods))]
        before, *found, behind = load.ask(("min_trips",), *calls, ("min_trips",))
        told = (load.capacity, load.goods, load.pairs, calls)
        self.assertEqual(found, [fewest_trips(other) for other in changed], told)
        self.assertEqual(behind, before, told)

    def test_random_loads(self):
        chance = random.Random(5)
        for _ in range(250):
            self.check(random_load(chance, 4), chance)

    def test_a_change_that_is_made_gives_the_same(self):
        chance = random.Random(6)
        for _ in range(100):
            load = random_load(chance, 6)
            load.goods.append((1, 0, 0))
            item = (chance.randint(1, 30), chance.randint(0, 3), chance.randint(0, 5))
            capacity = chance.randint(1, 60)
            place = chance.randint(0, len(load.goods) - 1)
            for told, made in (
                (("min_trips_without_item", place), ("remove_item", place)),
                (("min_trips_with_capacity", capacity), ("set_capacity", capacity)),
                (("min_trips_with_item", *item), ("add_item", *item)),
            ):
                found = load.ask(told, made, ("min_trips",))
                self.assertEqual(found[0], found[1] if found[1][0] < 0 else found[2], (load.goods, told))


class UsingTheShortestPlan(unittest.TestCase):
    """The stored plan beside a search over all plans, canonical or not."""

    def test_random_loads(self):
        chance = random.Random(7)
        for _ in range(250):
            load = random_load(chance, 4)
            count = len(load.goods)
            k = chance.randint(0, count + 1)
            start = [("assign_item", item, chance.randint(0, 6)) for item in range(count)]
            calls = [("get_plan",), ("use_shortest_plan", k), ("get_plan",), ("plan_length",), ("is_plan_valid",)]
            before, used, plan, length, valid = load.ask(*start, *calls)[count:]
            few = load.all_valid_plans(min(k, count))
            if not few:
                self.assertEqual((used, plan), ([-33], before))
                continue
            best = min(few, key=lambda plan: (load.length(plan), plan))
            self.assertEqual((used, plan), ([load.length(best)], [count] + best))
            self.assertEqual((length, valid), ([load.length(best), len(set(best))], [1]))


class LowerBounds(unittest.TestCase):
    def check(self, load):
        bounds, minimum = load.ask(("lower_bounds",), ("min_trips",))
        told = (load.capacity, load.goods, load.pairs, bounds, minimum)
        if minimum != [-33]:
            self.assertGreaterEqual(minimum[0], bounds[0], told)
            self.assertGreaterEqual(minimum[0], bounds[1], told)
        total = sum(weight for weight, category, stop in load.goods)
        self.assertTrue((bounds[0] - 1) * load.capacity < total <= bounds[0] * load.capacity, told)
        self.assertEqual(bounds[1:], self.largest(load), told)

    def largest(self, load):
        """The size and the number of the largest conflict set, tried from the largest size down."""
        items = range(len(load.goods))
        for size in range(len(load.goods), 0, -1):
            sets = [chosen for chosen in itertools.combinations(items, size) if self.all_apart(load, chosen)]
            if sets:
                return [size, min(sum(2**item for item in chosen) for chosen in sets)]
        return [0, 0]

    def all_apart(self, load, chosen):
        pairs = itertools.combinations(chosen, 2)
        return all(
            load.goods[a][0] + load.goods[b][0] > load.capacity or not load.pair_allowed(a, b) for a, b in pairs
        )

    def test_random_loads(self):
        chance = random.Random(8)
        for _ in range(600):
            self.check(random_load(chance, 7))

    def test_loads_in_which_every_item_fits(self):
        chance = random.Random(9)
        for _ in range(600):
            load = random_load(chance, 7)
            self.check(load.changed(goods=[item for item in load.goods if item[0] <= load.capacity]))

    def test_each_number_of_equal_items(self):
        for count in range(8):
            for capacity in (29, 30, 31, 59, 60):
                for pairs in ([], [(2, 2)]):
                    self.check(Load(capacity, [(30, 2, 0)] * count, pairs))


class ManualPlans(unittest.TestCase):
    """What is told of a manual plan, valid or not, canonical or not, beside what the test finds itself."""

    def check(self, load, plan):
        calls = [("assign_item", item, trip) for item, trip in enumerate(plan)]
        calls += [("get_plan",), ("is_plan_valid",), ("plan_length",)]
        found = load.ask(*calls)[len(plan):]
        self.assertEqual(found[0], [len(plan)] + plan)
        self.assertEqual(found[1], [1 if load.allows(plan) else 0])
        self.assertEqual(found[2], [load.length(plan), len(set(plan))])
        for trip in range(7):
            self.check_trip(load, plan, trip, calls[:len(plan)])

    def check_trip(self, load, plan, trip, assigning):
        members = [item for item, chosen in enumerate(plan) if chosen == trip]
        part = load.changed(goods=[load.goods[item] for item in members])
        weight = sum(item[0] for item in part.goods)
        together = [0] * len(members)
        calls = [("trip_info", trip), ("remaining_capacity", trip), ("loading_order", trip)]
        told, remaining, order = load.ask(*assigning, *calls)[-3:]
        self.assertEqual(told, [len(members), weight, part.length(together), 1 if part.allows(together) else 0])
        self.assertEqual(remaining, [load.capacity - weight if weight <= load.capacity else 0])
        self.check_order(load, members, order)

    def check_order(self, load, members, order):
        self.assertEqual(order[0], len(members))
        self.assertEqual(sorted(order[1:]), members)
        far = [load.distances[load.goods[item][2]] for item in order[1:]]
        for place in range(1, len(members)):
            self.assertLessEqual(far[place], far[place - 1])
            if far[place] == far[place - 1]:
                self.assertLess(order[place], order[place + 1])

    def test_random_loads(self):
        chance = random.Random(10)
        for _ in range(200):
            load = random_load(chance, 7)
            trips = chance.randint(0, 6)
            self.check(load, [chance.randint(0, trips) for _ in load.goods])

    def test_random_loads_in_trips_left_out(self):
        chance = random.Random(13)
        for _ in range(100):
            load = random_load(chance, 7)
            self.check(load, [chance.choice([0, 3, 6]) for _ in load.goods])

    def test_all_plans_of_three_items(self):
        load = Load(10, [(6, 0, 0), (4, 1, 1), (5, 2, 2)], [(1, 2)], [7, 9, 7])
        for plan in itertools.product((0, 3, 6), repeat=3):
            self.check(load, list(plan))


class MinimumAndShortestOfFullLoads(unittest.TestCase):
    """Seven items, without a search over all plans: what must hold between the answers."""

    def test_answers_fit_together(self):
        chance = random.Random(3)
        for _ in range(60):
            load = random_load(chance, 7)
            load.goods += [(1, 0, 0)] * (7 - len(load.goods))
            minimum, first_plan, *shortest = load.ask(
                ("min_trips",), ("first_minimal_plan",), *[("shortest_plan", k) for k in range(8)]
            )
            if any(item[0] > load.capacity for item in load.goods):
                self.assertEqual([minimum, first_plan] + shortest, [[-33]] * 10)
                continue
            self.assertEqual(len(set(first_plan[1:])), minimum[0])
            self.assertTrue(load.allows(first_plan[1:]))
            self.assertEqual(shortest[:minimum[0]], [[-33]] * minimum[0])
            for k in range(minimum[0], 8):
                length, plan = shortest[k][0], shortest[k][1:]
                self.assertTrue(load.allows(plan))
                self.assertEqual(plan, canonical(plan))
                self.assertLess(max(plan), k)
                self.assertEqual(length, load.length(plan))
                self.assertLessEqual(length, load.length(first_plan[1:]))
                if k > minimum[0]:
                    self.assertLessEqual(length, shortest[k - 1][0])


class FirstFitBelowTwiceTheMinimum(unittest.TestCase):
    def check(self, load):
        minimum, plan = load.ask(("min_trips",), ("first_fit",))
        self.assertLess(plan[0], 2 * minimum[0], (load.capacity, load.goods))
        self.assertGreaterEqual(plan[0], minimum[0])
        self.assertTrue(load.allows(plan[1:]))
        self.assertEqual(len(set(plan[1:])), plan[0])

    def test_random_loads(self):
        chance = random.Random(4)
        for _ in range(400):
            capacity = chance.randint(1, 60)
            heaviest = chance.randint(1, min(30, capacity))
            count = chance.randint(1, 7)
            self.check(Load(capacity, [(chance.randint(1, heaviest), 0, 0) for _ in range(count)]))

    def test_one_item_each_as_heavy_as_the_capacity(self):
        for count in range(1, 8):
            self.check(Load(1, [(1, 0, 0)] * count))

    def test_earlier_trips_are_tried_again(self):
        # With only the newest trip tried, six trips would be needed here.
        load = Load(4, [(2, 0, 0), (3, 0, 0), (2, 0, 0), (4, 0, 0), (1, 0, 0), (4, 0, 0)])
        self.check(load)
        self.assertEqual(load.ask(("first_fit",)), [[4, 0, 1, 0, 2, 1, 3]])


BAD_CALLS = [
    ("create", 0),
    ("create", 61),
    ("create", GREATEST),
    ("set_capacity", 0),
    ("set_capacity", 61),
    ("set_capacity", GREATEST),
    ("add_item", 0, 0, 0),
    ("add_item", 31, 0, 0),
    ("add_item", 1, 4, 0),
    ("add_item", 1, 0, 6),
    ("remove_item", 7),
    ("remove_item", GREATEST),
    ("set_incompatible", 4, 0, 1),
    ("set_incompatible", 0, 4, 1),
    ("set_incompatible", 0, 1, 2),
    ("set_incompatible", 0, 0, GREATEST),
    ("set_distance", 6, 1),
    ("set_distance", 1, 51),
    ("set_distance", GREATEST, GREATEST),
    ("in_conflict", 7, 0),
    ("in_conflict", 0, 7),
    ("shortest_plan", 8),
    ("shortest_plan", GREATEST),
    ("valid_plan_count", 8),
    ("valid_plan_count", GREATEST),
    ("assign_item", 7, 0),
    ("assign_item", GREATEST, GREATEST),
    ("assign_item", 0, 7),
    ("assign_item", 0, GREATEST),
    ("trip_info", 7),
    ("trip_info", GREATEST),
    ("loading_order", 7),
    ("loading_order", GREATEST),
    ("use_shortest_plan", 8),
    ("use_shortest_plan", GREATEST),
    ("remaining_capacity", 7),
    ("remaining_capacity", GREATEST),
    ("min_trips_with_item", 0, 0, 0),
    ("min_trips_with_item", 31, 0, 0),
    ("min_trips_with_item", 1, 4, 0),
    ("min_trips_with_item", 1, 0, 6),
    ("min_trips_with_item", GREATEST, GREATEST, GREATEST),
    ("min_trips_with_capacity", 0),
    ("min_trips_with_capacity", 61),
    ("min_trips_with_capacity", GREATEST),
    ("min_trips_without_item", 7),
    ("min_trips_without_item", GREATEST),
]

# The summary tells the capacity and the distances, the last calls each pair of categories.
STATE = [
    ("list_items",),
    ("get_plan",),
    ("summary",),
    ("first_minimal_plan",),
    *[("set_incompatible", a, b, 0) for a in range(4) for b in range(a, 4)],
]


class RefusedCallsChangeNothing(unittest.TestCase):
    FEW = Load(10, [(6, 0, 0), (4, 1, 1), (5, 0, 1)], [(0, 2), (1, 1)], [8, 3, 0, 0, 0, 50])

    def check(self, load, bad):
        # A manual plan that neither the start nor a search would give.
        plan = [("assign_item", item, 6 - item) for item in range(len(load.goods))]
        plain = load.ask(*plan, *STATE)[len(plan):]
        refused, *behind = load.ask(*plan, bad, *STATE)[len(plan):]
        self.assertEqual(len(refused), 1, bad)
        self.assertIn(refused[0], (-2, -22, -28, -33), bad)
        self.assertEqual(behind, plain, bad)

    def test_each_call_that_is_out_of_range(self):
        for bad in BAD_CALLS:
            self.check(self.FEW, bad)

    def test_each_call_that_is_out_of_range_without_items(self):
        for bad in BAD_CALLS:
            self.check(Load(10), bad)

    def test_items_just_behind_the_last(self):
        for bad in (
            ("remove_item", 3),
            ("in_conflict", 3, 0),
            ("in_conflict", 0, 3),
            ("in_conflict", 3, 3),
            ("assign_item", 3, 0),
            ("assign_item", 3, 7),
            ("min_trips_without_item", 3),
        ):
            self.check(self.FEW, bad)

    def test_an_eighth_item(self):
        full = Load(10, [(5, 0, 0)] * 7, [(0, 1)], [8, 3])
        self.check(full, ("add_item", 1, 0, 0))
        self.check(full, ("min_trips_with_item", 1, 0, 0))

    def test_searches_without_a_valid_plan(self):
        load = Load(10, [(11, 0, 0), (4, 1, 1)], [(1, 1)], [8])
        for bad in (
            ("min_trips",),
            ("first_minimal_plan",),
            ("shortest_plan", 7),
            ("use_shortest_plan", 7),
            ("min_trips_with_item", 1, 0, 0),
            ("min_trips_with_capacity", 10),
            ("min_trips_without_item", 1),
        ):
            self.check(load, bad)
        for k in (0, 1):
            self.check(self.FEW, ("shortest_plan", k))
            self.check(self.FEW, ("use_shortest_plan", k))
        self.check(self.FEW, ("min_trips_with_item", 11, 0, 0))
        self.check(self.FEW, ("min_trips_with_capacity", 5))


class BeforeCreate(unittest.TestCase):
    GOOD = [
        ("set_capacity", 10),
        ("add_item", 1, 0, 0),
        ("remove_item", 0),
        ("list_items",),
        ("set_incompatible", 0, 1, 1),
        ("set_distance", 0, 1),
        ("in_conflict", 0, 0),
        ("min_trips",),
        ("first_minimal_plan",),
        ("shortest_plan", 7),
        ("valid_plan_count", 7),
        ("first_fit",),
        ("lower_bounds",),
        ("assign_item", 0, 0),
        ("get_plan",),
        ("is_plan_valid",),
        ("plan_length",),
        ("trip_info", 0),
        ("loading_order", 0),
        ("use_shortest_plan", 7),
        ("remaining_capacity", 0),
        ("min_trips_with_item", 1, 0, 0),
        ("min_trips_with_capacity", 1),
        ("min_trips_without_item", 0),
        ("summary",),
    ]

    def test_every_other_call_is_refused(self):
        for call in self.GOOD:
            self.assertEqual(ask(call), [[-11]], call)
        self.assertEqual(ask(*self.GOOD), [[-11]] * 25)

    def test_having_no_instance_comes_before_every_other_error(self):
        for bad in BAD_CALLS:
            if bad[0] != "create":
                self.assertEqual(ask(bad), [[-11]], bad)

    def test_a_refused_create_makes_no_instance(self):
        for capacity in (0, 61, GREATEST):
            found = ask(("create", capacity), *self.GOOD)
            self.assertEqual(found, [[-22]] + [[-11]] * len(self.GOOD))

    def test_refused_calls_leave_nothing_for_the_instance(self):
        found = ask(*self.GOOD, ("create", 10), ("list_items",), ("get_plan",), ("summary",))
        self.assertEqual(found[len(self.GOOD):], [[0], [0], [0], [0, 10] + [0] * 8])

    def test_a_refused_create_keeps_the_instance_there_is(self):
        setup = [("create", 10), ("add_item", 6, 1, 2), ("set_distance", 2, 9), ("assign_item", 0, 5)]
        found = ask(*setup, ("create", 0), ("create", 61), ("list_items",), ("get_plan",), ("summary",))
        self.assertEqual(found[4:], [[-22], [-22], [1, 6, 1, 2], [1, 5], [1, 10, 6, 0, 0, 0, 9, 0, 0, 0]])
