"""The calls 7 to 12, which answer about the instance."""

import unittest

from support import GREATEST, Load, ask


class InConflict(unittest.TestCase):
    def test_by_weight(self):
        goods = [(4, 0, 0), (6, 1, 1), (7, 2, 2)]
        found = Load(10, goods).ask(("in_conflict", 0, 1), ("in_conflict", 0, 2), ("in_conflict", 2, 0))
        self.assertEqual(found, [[0], [1], [1]])

    def test_by_category_in_both_orders(self):
        load = Load(60, [(1, 0, 0), (1, 3, 0), (1, 1, 0)], [(3, 0)])
        calls = [("in_conflict", a, b) for a, b in ((0, 1), (1, 0), (0, 2), (2, 1))]
        self.assertEqual(load.ask(*calls), [[1], [1], [0], [0]])

    def test_a_category_incompatible_with_itself(self):
        load = Load(60, [(1, 2, 0), (1, 2, 0), (1, 1, 0)], [(2, 2)])
        calls = [("in_conflict", a, b) for a, b in ((0, 1), (0, 0), (1, 1), (0, 2), (2, 2))]
        self.assertEqual(load.ask(*calls), [[1], [0], [0], [0], [0]])

    def test_the_same_item_twice(self):
        load = Load(10, [(6, 0, 0), (30, 0, 0)], [(0, 0)])
        self.assertEqual(load.ask(("in_conflict", 0, 0), ("in_conflict", 1, 1)), [[0], [0]])

    def test_the_same_stop_or_category_is_no_conflict(self):
        self.assertEqual(Load(10, [(5, 1, 1), (5, 1, 1)]).ask(("in_conflict", 0, 1)), [[0]])

    def test_items_that_do_not_exist(self):
        load = Load(10, [(6, 0, 0), (7, 0, 0)])
        for a, b in ((2, 0), (0, 2), (2, 2), (GREATEST, 0), (1, GREATEST), (GREATEST, GREATEST), (7, 1)):
            self.assertEqual(load.ask(("in_conflict", a, b)), [[-2]])
        self.assertEqual(ask(("create", 9), ("in_conflict", 0, 0))[1], [-2])


class MinTrips(unittest.TestCase):
    def test_no_items(self):
        self.assertEqual(Load(1).ask(("min_trips",), ("first_minimal_plan",)), [[0], [0]])

    def test_one_item_as_heavy_as_the_capacity(self):
        self.assertEqual(Load(7, [(7, 0, 0)]).ask(("min_trips",), ("first_minimal_plan",)), [[1], [1, 0]])

    def test_an_item_heavier_than_the_capacity(self):
        load = Load(7, [(8, 0, 0)])
        self.assertEqual(load.ask(("min_trips",), ("first_minimal_plan",)), [[-33], [-33]])
        load = Load(7, [(1, 0, 0), (2, 0, 0), (30, 0, 0), (1, 0, 0)])
        self.assertEqual(load.ask(("min_trips",), ("first_minimal_plan",)), [[-33], [-33]])

    def test_seven_items_in_one_trip(self):
        load = Load(7, [(1, 0, 0)] * 7)
        self.assertEqual(load.ask(("min_trips",), ("first_minimal_plan",)), [[1], [7] + [0] * 7])

    def test_seven_items_in_seven_trips(self):
        by_weight = Load(59, [(30, 0, 0)] * 7)
        by_category = Load(60, [(1, 0, 0)] * 7, [(0, 0)])
        for load in (by_weight, by_category):
            found = load.ask(("min_trips",), ("first_minimal_plan",))
            self.assertEqual(found, [[7], [7, 0, 1, 2, 3, 4, 5, 6]])

    def test_better_than_first_fit(self):
        load = Load(10, [(3, 0, 0), (3, 0, 0), (3, 0, 0), (7, 0, 0), (7, 0, 0), (7, 0, 0)])
        found = load.ask(("min_trips",), ("first_minimal_plan",), ("first_fit",))
        self.assertEqual(found, [[3], [6, 0, 1, 2, 0, 1, 2], [4, 0, 0, 0, 1, 2, 3]])

    def test_ties_go_to_the_lexicographically_smallest(self):
        load = Load(10, [(5, 0, 0)] * 4)
        self.assertEqual(load.ask(("first_minimal_plan",)), [[4, 0, 0, 1, 1]])
        load = Load(10, [(6, 0, 0), (4, 0, 0), (4, 0, 0), (6, 0, 0)])
        self.assertEqual(load.ask(("first_minimal_plan",)), [[4, 0, 0, 1, 1]])

    def test_pairwise_compatible_but_too_heavy_together(self):
        self.assertEqual(Load(10, [(4, 0, 0)] * 3).ask(("min_trips",), ("first_minimal_plan",)), [[2], [3, 0, 0, 1]])

    def test_the_distances_do_not_matter(self):
        load = Load(10, [(5, 0, 0), (5, 0, 1), (5, 0, 0), (5, 0, 1)], distances=[50, 1])
        self.assertEqual(load.ask(("first_minimal_plan",)), [[4, 0, 0, 1, 1]])


class ShortestPlan(unittest.TestCase):
    def test_no_items(self):
        for k in (0, 1, 6, 7):
            self.assertEqual(Load(9).ask(("shortest_plan", k)), [[0]])

    def test_k_of_0_with_items(self):
        self.assertEqual(Load(9, [(1, 0, 0)]).ask(("shortest_plan", 0)), [[-33]])

    def test_near_and_far_apart(self):
        load = Load(10, [(5, 0, 0), (5, 0, 1), (5, 0, 0), (5, 0, 1)], distances=[50, 1])
        self.assertEqual(load.ask(("shortest_plan", 2)), [[102, 0, 1, 0, 1]])

    def test_more_trips_can_be_shorter(self):
        # Two trips are enough only if the two far items go apart.
        load = Load(10, [(5, 0, 0), (4, 0, 0), (6, 0, 1), (5, 0, 1)], distances=[50, 1])
        found = load.ask(("min_trips",), ("shortest_plan", 2), ("shortest_plan", 3), ("shortest_plan", 4))
        self.assertEqual(found, [[2], [200, 0, 1, 1, 0], [104, 0, 0, 1, 2], [104, 0, 0, 1, 2]])

    def test_incompatible_categories_may_cost_length(self):
        goods = [(4, 0, 0), (6, 1, 1), (4, 1, 0)]
        self.assertEqual(Load(10, goods, [], [50, 1]).ask(("shortest_plan", 2)), [[102, 0, 1, 0]])
        self.assertEqual(Load(10, goods, [(0, 1)], [50, 1]).ask(("shortest_plan", 2)), [[200, 0, 1, 1]])

    def test_k_is_a_limit_not_a_number_to_reach(self):
        load = Load(60, [(1, 0, 0), (2, 1, 1), (3, 2, 2)], distances=[9, 8, 7])
        for k in (1, 2, 3, 6, 7):
            self.assertEqual(load.ask(("shortest_plan", k)), [[18, 0, 0, 0]])

    def test_k_one_below_the_minimum_and_the_minimum(self):
        load = Load(59, [(30, 0, 0)] * 7, distances=[1])
        found = load.ask(("shortest_plan", 6), ("shortest_plan", 7))
        self.assertEqual(found, [[-33], [14, 0, 1, 2, 3, 4, 5, 6]])

    def test_ties_go_to_the_lexicographically_smallest(self):
        load = Load(10, [(4, 0, 0), (4, 0, 0), (4, 0, 0)], distances=[5])
        self.assertEqual(load.ask(("shortest_plan", 7)), [[20, 0, 0, 1]])
        load = Load(10, [(5, 0, 5), (5, 0, 5), (5, 0, 5)])
        self.assertEqual(load.ask(("shortest_plan", 3)), [[0, 0, 0, 1]])

    def test_a_tie_may_go_to_a_plan_with_more_trips(self):
        # Trips at distance 0 cost nothing: 0, 0, 1, 2 is as long as 0, 1, 0, 1 and comes first.
        load = Load(10, [(5, 0, 0), (4, 0, 1), (5, 0, 1), (6, 0, 1)], distances=[3, 0])
        self.assertEqual(load.ask(("first_minimal_plan",)), [[4, 0, 1, 0, 1]])
        self.assertEqual(load.ask(("shortest_plan", 2)), [[6, 0, 1, 0, 1]])
        self.assertEqual(load.ask(("shortest_plan", 3)), [[6, 0, 0, 1, 2]])

    def test_the_greatest_length(self):
        load = Load(59, [(30, 0, 5)] * 7, distances=[0, 0, 0, 0, 0, 50])
        self.assertEqual(load.ask(("shortest_plan", 7)), [[700, 0, 1, 2, 3, 4, 5, 6]])

    def test_equal_distances_of_different_stops(self):
        load = Load(10, [(5, 0, 0), (5, 0, 1), (5, 0, 2), (5, 0, 3)], distances=[4, 4, 4, 4])
        self.assertEqual(load.ask(("shortest_plan", 4)), [[16, 0, 0, 1, 1]])

    def test_k_outside_its_range(self):
        for k in (8, 9, GREATEST):
            self.assertEqual(Load(9, [(1, 0, 0)]).ask(("shortest_plan", k)), [[-22]])
            self.assertEqual(Load(9).ask(("shortest_plan", k)), [[-22]])

    def test_k_outside_its_range_and_no_valid_plan(self):
        load = Load(9, [(10, 0, 0)])
        self.assertEqual(load.ask(("shortest_plan", 8), ("shortest_plan", 7)), [[-22], [-33]])

    def test_the_instance_is_not_changed(self):
        load = Load(10, [(5, 0, 0), (5, 0, 1), (5, 0, 0)], distances=[9, 2])
        found = load.ask(("list_items",), ("first_fit",), ("shortest_plan", 3), ("list_items",), ("first_fit",))
        self.assertEqual(found[:2], found[3:])


class ValidPlanCount(unittest.TestCase):
    def test_no_items(self):
        for k in (0, 1, 6, 7):
            self.assertEqual(Load(9).ask(("valid_plan_count", k)), [[1]])

    def test_seven_items_without_conflicts(self):
        # The ways to part seven things into at most k groups.
        counts = [[0], [1], [64], [365], [715], [855], [876], [877]]
        load = Load(7, [(1, 0, 0)] * 7)
        self.assertEqual(load.ask(*[("valid_plan_count", k) for k in range(8)]), counts)

    def test_all_in_conflict(self):
        load = Load(60, [(1, 3, 0)] * 7, [(3, 3)])
        self.assertEqual(load.ask(*[("valid_plan_count", k) for k in range(8)]), [[0]] * 7 + [[1]])

    def test_an_item_heavier_than_the_capacity(self):
        load = Load(5, [(1, 0, 0), (6, 0, 0)])
        self.assertEqual(load.ask(*[("valid_plan_count", k) for k in range(8)]), [[0]] * 8)

    def test_three_items_of_which_two_fit(self):
        load = Load(10, [(5, 0, 0)] * 3)
        self.assertEqual(load.ask(*[("valid_plan_count", k) for k in range(5)]), [[0], [0], [3], [4], [4]])

    def test_k_outside_its_range(self):
        for k in (8, 9, GREATEST):
            self.assertEqual(Load(9, [(1, 0, 0)]).ask(("valid_plan_count", k)), [[-22]])
            self.assertEqual(Load(9, [(10, 0, 0)]).ask(("valid_plan_count", k)), [[-22]])


class FirstFit(unittest.TestCase):
    def test_no_items(self):
        self.assertEqual(Load(9).ask(("first_fit",)), [[0]])

    def test_the_smallest_trip_that_stays_valid(self):
        load = Load(10, [(6, 0, 0), (5, 0, 0), (4, 0, 0), (5, 0, 0), (1, 0, 0)])
        self.assertEqual(load.ask(("first_fit",)), [[3, 0, 1, 0, 1, 2]])

    def test_categories_keep_items_apart(self):
        load = Load(60, [(1, 0, 0), (1, 1, 0), (1, 0, 0), (1, 2, 0), (1, 1, 0)], [(0, 1), (1, 2)])
        self.assertEqual(load.ask(("first_fit",)), [[2, 0, 1, 0, 0, 1]])

    def test_a_category_incompatible_with_itself(self):
        self.assertEqual(Load(60, [(1, 2, 0)] * 7, [(2, 2)]).ask(("first_fit",)), [[7, 0, 1, 2, 3, 4, 5, 6]])

    def test_a_heavy_item_has_a_trip_of_its_own(self):
        load = Load(5, [(6, 0, 0), (1, 0, 0), (30, 0, 0), (1, 0, 0), (6, 0, 0)])
        self.assertEqual(load.ask(("first_fit",)), [[4, 0, 1, 2, 1, 3]])

    def test_a_full_trip(self):
        load = Load(60, [(30, 0, 0), (30, 0, 0), (1, 0, 0)])
        self.assertEqual(load.ask(("first_fit",)), [[2, 0, 0, 1]])

    def test_seven_items(self):
        self.assertEqual(Load(7, [(1, 0, 0)] * 7).ask(("first_fit",)), [[1] + [0] * 7])
        self.assertEqual(Load(30, [(30, 0, 0)] * 7).ask(("first_fit",)), [[7, 0, 1, 2, 3, 4, 5, 6]])
