"""The calls 22 to 24, which tell the minimum number of trips after a change that is not made."""

import unittest

from support import GREATEST, Load, ask

STATE = [("list_items",), ("get_plan",), ("summary",), ("min_trips",), ("lower_bounds",), ("valid_plan_count", 7)]


class Unchanged(unittest.TestCase):
    """The instance, its manual plan too, is the same behind each call, whether it is answered or refused."""

    LOADS = [
        Load(10),
        Load(10, [(6, 0, 0), (4, 1, 1), (5, 0, 1)], [(0, 1)], [8, 3]),
        Load(10, [(11, 0, 0), (4, 1, 1)], [(1, 1)]),
        Load(30, [(30, 0, 0), (1, 1, 1)] * 3 + [(15, 3, 5)], [(0, 0), (2, 3)], [0, 50]),
    ]

    CALLS = [
        ("min_trips_with_item", 1, 0, 0),
        ("min_trips_with_item", 30, 3, 5),
        ("min_trips_with_item", 31, 0, 0),
        ("min_trips_with_capacity", 1),
        ("min_trips_with_capacity", 60),
        ("min_trips_with_capacity", 61),
        ("min_trips_without_item", 0),
        ("min_trips_without_item", 1),
        ("min_trips_without_item", 7),
    ]

    def test_each_call(self):
        for load in self.LOADS:
            plan = [("assign_item", item, (item * 4 + 6) % 7) for item in range(len(load.goods))]
            before = load.ask(*plan, *STATE)[len(plan):]
            for call in self.CALLS:
                behind = load.ask(*plan, call, *STATE)[len(plan) + 1:]
                self.assertEqual(behind, before, call)

    def test_many_in_a_row(self):
        load = self.LOADS[1]
        before = load.ask(*STATE)
        behind = load.ask(*self.CALLS, *self.CALLS, *STATE)[-len(STATE):]
        self.assertEqual(behind, before)

    def test_the_next_item_gets_the_next_number(self):
        found = Load(10, [(6, 0, 0)]).ask(("min_trips_with_item", 1, 0, 0), ("add_item", 2, 0, 0), ("list_items",))
        self.assertEqual(found, [[1], [1], [2, 6, 0, 0, 2, 0, 0]])


class MinTripsWithItem(unittest.TestCase):
    def test_weight(self):
        load = Load(10, [(6, 0, 0), (5, 0, 0)])
        calls = [("min_trips_with_item", weight, 0, 0) for weight in (1, 4, 5, 6, 10)]
        self.assertEqual(load.ask(*calls), [[2], [2], [2], [3], [3]])

    def test_category(self):
        load = Load(60, [(1, 0, 0), (1, 1, 0)], [(0, 2), (1, 2), (1, 3)])
        calls = [("min_trips_with_item", 1, category, 0) for category in range(4)]
        self.assertEqual(load.ask(*calls), [[1], [1], [2], [2]])

    def test_a_category_incompatible_with_itself(self):
        load = Load(60, [(1, 2, 0)] * 3, [(2, 2)])
        self.assertEqual(load.ask(("min_trips_with_item", 1, 2, 0), ("min_trips_with_item", 1, 1, 0)), [[4], [3]])

    def test_no_items_yet(self):
        self.assertEqual(Load(10).ask(("min_trips_with_item", 10, 3, 5)), [[1]])
        self.assertEqual(Load(10).ask(("min_trips_with_item", 11, 3, 5)), [[-33]])

    def test_six_and_seven_items(self):
        self.assertEqual(Load(30, [(30, 0, 0)] * 6).ask(("min_trips_with_item", 30, 0, 0)), [[7]])
        self.assertEqual(Load(30, [(30, 0, 0)] * 7).ask(("min_trips_with_item", 30, 0, 0)), [[-28]])

    def test_least_and_greatest_values(self):
        for weight in (1, 2, 29, 30):
            for category in (0, 1, 2, 3):
                for stop in (0, 1, 4, 5):
                    found = Load(30, [(30, 0, 0)]).ask(("min_trips_with_item", weight, category, stop))
                    self.assertEqual(found, [[2]])

    def test_outside_its_ranges(self):
        bad = [(weight, 0, 0) for weight in (0, 31, 32, GREATEST)]
        bad += [(1, category, 0) for category in (4, 5, GREATEST)]
        bad += [(1, 0, stop) for stop in (6, 7, GREATEST)]
        bad += [(GREATEST, GREATEST, GREATEST)]
        full = Load(10, [(1, 0, 0)] * 7)
        too_heavy = Load(10, [(11, 0, 0)])
        for numbers in bad:
            for load in (Load(10), full, too_heavy):
                self.assertEqual(load.ask(("min_trips_with_item", *numbers)), [[-22]], numbers)

    def test_seven_items_of_which_one_is_too_heavy(self):
        load = Load(10, [(1, 0, 0)] * 6 + [(11, 0, 0)])
        self.assertEqual(load.ask(("min_trips_with_item", 1, 0, 0), ("min_trips_with_item", 30, 0, 0)), [[-28], [-28]])

    def test_undefined(self):
        self.assertEqual(Load(10, [(11, 0, 0)]).ask(("min_trips_with_item", 1, 0, 0)), [[-33]])
        self.assertEqual(Load(10, [(1, 0, 0)]).ask(("min_trips_with_item", 11, 0, 0)), [[-33]])


class MinTripsWithCapacity(unittest.TestCase):
    def test_smaller_and_greater(self):
        load = Load(10, [(6, 0, 0), (5, 0, 0), (4, 0, 0)])
        calls = [("min_trips_with_capacity", capacity) for capacity in (5, 6, 8, 9, 10, 11, 14, 15, 60)]
        self.assertEqual(load.ask(*calls), [[-33], [3], [3], [2], [2], [2], [2], [1], [1]])

    def test_undefined_now_but_not_then(self):
        load = Load(10, [(11, 0, 0)])
        found = load.ask(("min_trips",), ("min_trips_with_capacity", 11), ("min_trips_with_capacity", 10))
        self.assertEqual(found, [[-33], [1], [-33]])

    def test_no_items(self):
        found = Load(10).ask(*[("min_trips_with_capacity", capacity) for capacity in (1, 2, 59, 60)])
        self.assertEqual(found, [[0]] * 4)

    def test_seven_items(self):
        load = Load(30, [(30, 0, 0)] * 7)
        calls = [("min_trips_with_capacity", capacity) for capacity in (29, 30, 59, 60)]
        self.assertEqual(load.ask(*calls), [[-33], [7], [7], [4]])

    def test_categories_still_count(self):
        self.assertEqual(Load(1, [(1, 0, 0), (1, 0, 0)], [(0, 0)]).ask(("min_trips_with_capacity", 60)), [[2]])

    def test_outside_its_range(self):
        for capacity in (0, 61, 62, GREATEST):
            for load in (Load(10), Load(10, [(6, 0, 0)]), Load(10, [(11, 0, 0)])):
                self.assertEqual(load.ask(("min_trips_with_capacity", capacity)), [[-22]])


class MinTripsWithoutItem(unittest.TestCase):
    def test_each_item(self):
        load = Load(10, [(6, 0, 0), (5, 0, 0), (4, 0, 0), (5, 1, 0)], [(0, 1)])
        found = load.ask(("min_trips",), *[("min_trips_without_item", item) for item in range(4)])
        self.assertEqual(found, [[3], [2], [2], [3], [2]])

    def test_the_only_item(self):
        self.assertEqual(Load(10, [(6, 0, 0)]).ask(("min_trips_without_item", 0)), [[0]])
        self.assertEqual(Load(10, [(11, 0, 0)]).ask(("min_trips_without_item", 0)), [[0]])

    def test_an_item_that_is_too_heavy(self):
        load = Load(10, [(1, 0, 0), (11, 0, 0), (2, 0, 0)])
        found = load.ask(("min_trips",), *[("min_trips_without_item", item) for item in range(3)])
        self.assertEqual(found, [[-33], [-33], [1], [-33]])

    def test_two_items_that_are_too_heavy(self):
        load = Load(10, [(11, 0, 0), (11, 0, 0)])
        self.assertEqual(load.ask(("min_trips_without_item", 0), ("min_trips_without_item", 1)), [[-33], [-33]])

    def test_seven_items(self):
        load = Load(60, [(1, 0, 0)] * 7, [(0, 0)])
        found = load.ask(*[("min_trips_without_item", item) for item in range(8)])
        self.assertEqual(found, [[6]] * 7 + [[-2]])

    def test_items_that_do_not_exist(self):
        for item in (0, 1, 6, 7, GREATEST):
            self.assertEqual(ask(("create", 9), ("min_trips_without_item", item))[1], [-2])
        for item in (2, 3, 7, GREATEST):
            for load in (Load(10, [(1, 0, 0)] * 2), Load(10, [(1, 0, 0), (11, 0, 0)])):
                self.assertEqual(load.ask(("min_trips_without_item", item)), [[-2]])
