"""The calls 14 to 21, which set the manual plan and answer about it."""

import unittest

from support import GREATEST, Load, ask, ask_last


def assigned(trips):
    """The calls that make this list of trips the manual plan."""
    return [("assign_item", item, trip) for item, trip in enumerate(trips)]


def held(load, trips, *calls):
    """What the calls answer on the load with this manual plan."""
    return load.ask(*assigned(trips), *calls)[len(trips):]


class AssignItem(unittest.TestCase):
    def test_answers_the_previous_trip(self):
        calls = [("assign_item", 1, trip) for trip in (3, 6, 0, 5, 5, 1)]
        found = Load(10, [(1, 0, 0), (2, 0, 0)]).ask(*calls, ("get_plan",))
        self.assertEqual(found, [[0], [3], [6], [0], [5], [5], [2, 0, 1]])

    def test_least_and_greatest_trip_and_item(self):
        for item in (0, 1, 5, 6):
            for trip in (0, 1, 5, 6):
                expected = [0] * 7
                expected[item] = trip
                found = Load(10, [(1, 0, 0)] * 7).ask(("assign_item", item, trip), ("get_plan",))
                self.assertEqual(found, [[0], [7] + expected])

    def test_items_may_be_put_where_they_do_not_fit(self):
        load = Load(10, [(9, 0, 0), (30, 0, 0), (8, 0, 0)], [(0, 0)])
        self.assertEqual(held(load, [4, 4, 4], ("get_plan",)), [[3, 4, 4, 4]])

    def test_items_that_do_not_exist(self):
        load = Load(10, [(1, 0, 0), (2, 0, 0)])
        for item in (2, 3, 6, 7, GREATEST):
            self.assertEqual(held(load, [4, 5], ("assign_item", item, 0), ("get_plan",)), [[-2], [2, 4, 5]])
        self.assertEqual(Load(10).ask(("assign_item", 0, 0)), [[-2]])

    def test_trips_outside_their_range(self):
        load = Load(10, [(1, 0, 0), (2, 0, 0)])
        for trip in (7, 8, GREATEST):
            self.assertEqual(held(load, [4, 5], ("assign_item", 1, trip), ("get_plan",)), [[-22], [2, 4, 5]])

    def test_no_such_item_and_a_trip_outside_its_range(self):
        load = Load(10, [(1, 0, 0), (2, 0, 0)])
        for item, trip in ((2, 7), (7, 7), (GREATEST, GREATEST)):
            self.assertEqual(load.ask(("assign_item", item, trip)), [[-2]])
        self.assertEqual(Load(10).ask(("assign_item", 0, 7)), [[-2]])


class GetPlan(unittest.TestCase):
    def test_no_items(self):
        self.assertEqual(Load(10).ask(("get_plan",)), [[0]])

    def test_new_items_go_to_trip_0(self):
        self.assertEqual(Load(1, [(30, 0, 0)] * 7, [(0, 0)]).ask(("get_plan",)), [[7] + [0] * 7])

    def test_a_new_item_goes_to_trip_0_whatever_the_others(self):
        found = held(Load(10, [(1, 0, 0), (2, 0, 0)]), [5, 6], ("add_item", 3, 0, 0), ("get_plan",))
        self.assertEqual(found, [[2], [3, 5, 6, 0]])

    def test_a_removed_item_takes_its_entry_along(self):
        load = Load(10, [(1, 0, 0), (2, 0, 0), (3, 0, 0), (4, 0, 0)])
        for item, left in ((0, [4, 5, 6]), (1, [3, 5, 6]), (2, [3, 4, 6]), (3, [3, 4, 5])):
            found = held(load, [3, 4, 5, 6], ("remove_item", item), ("get_plan",))
            self.assertEqual(found, [[3], [3] + left])

    def test_an_item_that_comes_in_the_place_of_a_removed_one(self):
        load = Load(10, [(1, 0, 0), (2, 0, 0)])
        found = held(load, [3, 4], ("remove_item", 1), ("add_item", 5, 0, 0), ("get_plan",), ("assign_item", 1, 2))
        self.assertEqual(found, [[1], [1], [2, 3, 0], [0]])

    def test_until_no_item_is_left(self):
        found = held(Load(10, [(1, 0, 0), (2, 0, 0)]), [3, 4], ("remove_item", 0), ("remove_item", 0), ("get_plan",))
        self.assertEqual(found, [[1], [0], [0]])

    def test_a_refused_item_gets_no_entry(self):
        load = Load(10, [(1, 0, 0)] * 7)
        found = held(load, [6, 5, 4, 3, 2, 1, 0], ("add_item", 1, 0, 0), ("add_item", 0, 0, 0), ("get_plan",))
        self.assertEqual(found, [[-28], [-22], [7, 6, 5, 4, 3, 2, 1, 0]])

    def test_other_changes_leave_it(self):
        load = Load(10, [(6, 0, 0), (7, 1, 1)])
        changes = [("set_capacity", 1), ("set_incompatible", 0, 1, 1), ("set_distance", 0, 5)]
        self.assertEqual(held(load, [6, 2], *changes, ("get_plan",))[3], [2, 6, 2])

    def test_a_new_instance_has_none_of_it(self):
        found = held(Load(10, [(1, 0, 0)]), [6], ("create", 10), ("get_plan",), ("add_item", 1, 0, 0), ("get_plan",))
        self.assertEqual(found, [[0], [0], [0], [1, 0]])


class IsPlanValid(unittest.TestCase):
    def check(self, load, trips, expected):
        self.assertEqual(held(load, trips, ("is_plan_valid",)), [[expected]], trips)

    def test_no_items(self):
        self.check(Load(1), [], 1)

    def test_weight(self):
        load = Load(10, [(5, 0, 0), (5, 0, 0), (1, 0, 0)])
        for trips, expected in (([0, 0, 0], 0), ([0, 0, 1], 1), ([1, 0, 1], 1), ([0, 1, 2], 1), ([2, 2, 2], 0)):
            self.check(load, trips, expected)

    def test_too_heavy_only_together(self):
        self.check(Load(10, [(4, 0, 0)] * 3), [0, 0, 0], 0)
        self.check(Load(12, [(4, 0, 0)] * 3), [0, 0, 0], 1)

    def test_incompatible_categories(self):
        load = Load(60, [(1, 0, 0), (1, 1, 0), (1, 2, 0)], [(2, 0)])
        for trips, expected in (([0, 0, 0], 0), ([0, 1, 0], 0), ([0, 0, 1], 1), ([1, 0, 0], 1)):
            self.check(load, trips, expected)

    def test_a_category_incompatible_with_itself(self):
        load = Load(60, [(1, 3, 0), (1, 3, 0)], [(3, 3)])
        self.check(load, [0, 0], 0)
        self.check(load, [0, 1], 1)
        self.check(Load(60, [(1, 3, 0)], [(3, 3)]), [0], 1)

    def test_an_item_that_alone_is_too_heavy(self):
        load = Load(10, [(11, 0, 0), (1, 0, 0)])
        self.check(load, [0, 1], 0)
        self.check(load, [6, 0], 0)
        self.check(Load(11, [(11, 0, 0), (1, 0, 0)]), [6, 0], 1)

    def test_trip_numbers_left_out(self):
        load = Load(10, [(6, 0, 0), (6, 0, 0), (6, 0, 0)])
        self.check(load, [0, 3, 6], 1)
        self.check(load, [6, 3, 0], 1)
        self.check(load, [3, 6, 6], 0)

    def test_each_trip_is_looked_at(self):
        load = Load(10, [(6, 0, 0), (1, 0, 0), (6, 0, 0)])
        for trip in range(7):
            self.check(load, [trip, (trip + 1) % 7, trip], 0)

    def test_seven_items(self):
        load = Load(30, [(30, 0, 0)] * 7)
        self.check(load, [6, 5, 4, 3, 2, 1, 0], 1)
        self.check(load, [6, 5, 4, 3, 2, 1, 1], 0)

    def test_it_follows_what_changes(self):
        load = Load(10, [(6, 0, 0), (4, 1, 0)])
        found = load.ask(
            ("is_plan_valid",),
            ("set_capacity", 9),
            ("is_plan_valid",),
            ("set_capacity", 10),
            ("set_incompatible", 1, 0, 1),
            ("is_plan_valid",),
            ("remove_item", 0),
            ("is_plan_valid",),
        )
        self.assertEqual([found[0], found[2], found[5], found[7]], [[1], [0], [0], [1]])


class PlanLength(unittest.TestCase):
    def test_no_items(self):
        self.assertEqual(Load(10, distances=[9] * 6).ask(("plan_length",)), [[0, 0]])

    def test_farthest_stop_of_each_trip(self):
        load = Load(10, [(1, 0, 0), (1, 0, 1), (1, 0, 2)], distances=[5, 9, 2])
        for trips, expected in (([0, 0, 0], [18, 1]), ([0, 1, 0], [28, 2]), ([0, 1, 1], [28, 2]), ([2, 0, 1], [32, 3])):
            self.assertEqual(held(load, trips, ("plan_length",)), [expected], trips)

    def test_trip_numbers_left_out(self):
        load = Load(10, [(1, 0, 0), (1, 0, 1), (1, 0, 2)], distances=[5, 9, 2])
        self.assertEqual(held(load, [0, 3, 6], ("plan_length",)), [[32, 3]])
        self.assertEqual(held(load, [6, 6, 6], ("plan_length",)), [[18, 1]])
        self.assertEqual(held(load, [6, 3, 6], ("plan_length",)), [[28, 2]])

    def test_a_plan_that_is_not_valid(self):
        load = Load(1, [(30, 0, 0), (30, 0, 1)], [(0, 0)], [50, 49])
        self.assertEqual(held(load, [4, 4], ("plan_length",)), [[100, 1]])

    def test_distances_of_0(self):
        self.assertEqual(held(Load(10, [(1, 0, 0), (1, 0, 5)]), [1, 2], ("plan_length",)), [[0, 2]])

    def test_seven_items_and_the_greatest_length(self):
        load = Load(10, [(1, 0, 5)] * 7, distances=[0, 0, 0, 0, 0, 50])
        self.assertEqual(held(load, [6, 5, 4, 3, 2, 1, 0], ("plan_length",)), [[700, 7]])
        self.assertEqual(load.ask(("plan_length",)), [[100, 1]])

    def test_it_follows_what_changes(self):
        load = Load(10, [(1, 0, 0), (1, 0, 1)], distances=[5, 9])
        found = held(load, [0, 1], ("set_distance", 1, 1), ("plan_length",), ("remove_item", 0), ("plan_length",))
        self.assertEqual(found, [[9], [12, 2], [1], [2, 1]])


class TripInfo(unittest.TestCase):
    LOAD = Load(10, [(6, 0, 0), (4, 1, 1), (5, 2, 2), (1, 2, 3), (11, 3, 4)], [(1, 2)], [8, 3, 50, 1, 20])
    TRIPS = [6, 6, 0, 0, 3]

    def test_each_trip(self):
        found = held(self.LOAD, self.TRIPS, *[("trip_info", trip) for trip in range(7)])
        empty = [0, 0, 0, 1]
        self.assertEqual(found, [[2, 6, 100, 1], empty, empty, [1, 11, 40, 0], empty, empty, [2, 10, 16, 1]])

    def test_no_items_at_all(self):
        found = Load(1, distances=[50] * 6).ask(*[("trip_info", trip) for trip in range(7)])
        self.assertEqual(found, [[0, 0, 0, 1]] * 7)

    def test_seven_items(self):
        self.assertEqual(Load(60, [(30, 0, 0)] * 7, distances=[50]).ask(("trip_info", 0)), [[7, 210, 100, 0]])
        self.assertEqual(Load(7, [(1, 0, 0)] * 7).ask(("trip_info", 0)), [[7, 7, 0, 1]])

    def test_not_valid_by_weight_or_by_category(self):
        found = held(self.LOAD, [6, 6, 6, 0, 0], ("trip_info", 6), ("trip_info", 0))
        self.assertEqual(found, [[3, 15, 100, 0], [2, 12, 40, 0]])
        self.assertEqual(held(self.LOAD, [0, 1, 1, 2, 3], ("trip_info", 1)), [[2, 9, 100, 0]])

    def test_too_heavy_only_together(self):
        load = Load(10, [(4, 0, 0)] * 3)
        self.assertEqual(load.ask(("trip_info", 0)), [[3, 12, 0, 0]])

    def test_trips_that_do_not_exist(self):
        for trip in (7, 8, GREATEST):
            self.assertEqual(held(self.LOAD, self.TRIPS, ("trip_info", trip)), [[-2]])
            self.assertEqual(Load(1).ask(("trip_info", trip)), [[-2]])


class LoadingOrder(unittest.TestCase):
    def test_farthest_first(self):
        load = Load(60, [(1, 0, 0), (1, 0, 1), (1, 0, 2), (1, 0, 3)], distances=[5, 50, 0, 49])
        self.assertEqual(load.ask(("loading_order", 0)), [[4, 1, 3, 0, 2]])

    def test_equal_stops_go_by_the_number_of_the_item(self):
        load = Load(60, [(1, 0, 1), (1, 0, 0), (9, 1, 1), (1, 0, 0), (2, 2, 1)], distances=[7, 3])
        self.assertEqual(load.ask(("loading_order", 0)), [[5, 1, 3, 0, 2, 4]])

    def test_different_stops_of_equal_distance(self):
        goods = [(1, 0, stop) for stop in (2, 5, 0, 4, 3, 1, 2)]
        load = Load(60, goods, distances=[6, 6, 6, 6, 6, 6])
        self.assertEqual(load.ask(("loading_order", 0)), [[7, 0, 1, 2, 3, 4, 5, 6]])
        load = Load(60, goods, distances=[6, 6, 9, 6, 9, 6])
        self.assertEqual(load.ask(("loading_order", 0)), [[7, 0, 3, 6, 1, 2, 4, 5]])

    def test_all_distances_0(self):
        load = Load(60, [(1, 0, 5), (1, 0, 0), (1, 0, 3)])
        self.assertEqual(load.ask(("loading_order", 0)), [[3, 0, 1, 2]])

    def test_only_the_items_of_the_trip(self):
        load = Load(60, [(1, 0, 0), (1, 0, 1), (1, 0, 2), (1, 0, 3), (1, 0, 4)], distances=[1, 2, 3, 4, 5])
        found = held(load, [6, 0, 6, 3, 6], *[("loading_order", trip) for trip in range(7)])
        self.assertEqual(found, [[1, 1], [0], [0], [1, 3], [0], [0], [3, 4, 2, 0]])

    def test_a_trip_that_is_not_valid(self):
        load = Load(1, [(30, 0, 0), (30, 0, 1)], [(0, 0)], [1, 2])
        self.assertEqual(load.ask(("loading_order", 0)), [[2, 1, 0]])

    def test_no_items(self):
        self.assertEqual(Load(1).ask(*[("loading_order", trip) for trip in range(7)]), [[0]] * 7)

    def test_it_follows_what_changes(self):
        load = Load(60, [(1, 0, 0), (1, 0, 1), (1, 0, 2)], distances=[1, 2, 3])
        found = load.ask(
            ("loading_order", 0),
            ("set_distance", 0, 50),
            ("loading_order", 0),
            ("remove_item", 1),
            ("loading_order", 0),
        )
        self.assertEqual([found[0], found[2], found[4]], [[3, 2, 1, 0], [3, 0, 2, 1], [2, 0, 1]])

    def test_trips_that_do_not_exist(self):
        for trip in (7, 8, GREATEST):
            self.assertEqual(Load(9, [(1, 0, 0)]).ask(("loading_order", trip)), [[-2]])
            self.assertEqual(Load(1).ask(("loading_order", trip)), [[-2]])


class UseShortestPlan(unittest.TestCase):
    LOAD = Load(10, [(5, 0, 0), (4, 0, 0), (6, 0, 1), (5, 0, 1)], distances=[50, 1])

    def test_the_manual_plan_is_replaced(self):
        for k, length, plan in ((2, 200, [0, 1, 1, 0]), (3, 104, [0, 0, 1, 2]), (7, 104, [0, 0, 1, 2])):
            found = held(self.LOAD, [6, 5, 4, 3], ("use_shortest_plan", k), ("get_plan",), ("is_plan_valid",))
            self.assertEqual(found, [[length], [4] + plan, [1]])

    def test_no_items(self):
        for k in (0, 1, 6, 7):
            self.assertEqual(Load(9).ask(("use_shortest_plan", k), ("get_plan",)), [[0], [0]])

    def test_seven_items_and_the_greatest_length(self):
        load = Load(59, [(30, 0, 5)] * 7, distances=[0, 0, 0, 0, 0, 50])
        found = load.ask(("use_shortest_plan", 7), ("get_plan",), ("plan_length",))
        self.assertEqual(found, [[700], [7, 0, 1, 2, 3, 4, 5, 6], [700, 7]])

    def test_a_length_of_0(self):
        found = held(Load(10, [(6, 0, 0), (5, 0, 0)]), [4, 4], ("use_shortest_plan", 2), ("get_plan",))
        self.assertEqual(found, [[0], [2, 0, 1]])

    def test_refused_it_leaves_the_manual_plan(self):
        for k, code in ((0, -33), (1, -33), (8, -22), (9, -22), (GREATEST, -22)):
            found = held(self.LOAD, [6, 5, 4, 3], ("use_shortest_plan", k), ("get_plan",))
            self.assertEqual(found, [[code], [4, 6, 5, 4, 3]])
        heavy = Load(9, [(10, 0, 0), (1, 0, 0)])
        for k, code in ((7, -33), (8, -22)):
            self.assertEqual(held(heavy, [2, 1], ("use_shortest_plan", k), ("get_plan",)), [[code], [2, 2, 1]])

    def test_distances_that_change_behind_it(self):
        # The stored plan stays; only its length follows the distances.
        changes = [("set_distance", 0, 1), ("set_distance", 1, 50)]
        calls = [("get_plan",), ("plan_length",), ("shortest_plan", 3), ("use_shortest_plan", 3), ("get_plan",)]
        found = self.LOAD.ask(("use_shortest_plan", 3), *changes, *calls)
        self.assertEqual(found[0], [104])
        self.assertEqual(found[3:], [[4, 0, 0, 1, 2], [202, 3], [200, 0, 1, 1, 0], [200], [4, 0, 1, 1, 0]])

    def test_items_removed_and_added_behind_it(self):
        found = self.LOAD.ask(
            ("use_shortest_plan", 3), ("remove_item", 0), ("get_plan",), ("add_item", 1, 0, 0), ("get_plan",)
        )
        self.assertEqual(found, [[104], [3], [3, 0, 1, 2], [3], [4, 0, 1, 2, 0]])

    def test_assigning_behind_it(self):
        found = self.LOAD.ask(
            ("use_shortest_plan", 3),
            ("assign_item", 3, 6),
            ("get_plan",),
            ("shortest_plan", 3),
            ("plan_length",),
            ("use_shortest_plan", 3),
            ("get_plan",),
        )
        self.assertEqual(
            found, [[104], [2], [4, 0, 0, 1, 6], [104, 0, 0, 1, 2], [104, 3], [104], [4, 0, 0, 1, 2]]
        )

    def test_shortest_plan_leaves_the_manual_plan(self):
        searches = [("shortest_plan", 3), ("shortest_plan", 1), ("min_trips",), ("first_minimal_plan",)]
        searches += [("first_fit",), ("valid_plan_count", 7), ("lower_bounds",)]
        self.assertEqual(held(self.LOAD, [6, 5, 4, 3], *searches, ("get_plan",))[-1], [4, 6, 5, 4, 3])


class RemainingCapacity(unittest.TestCase):
    def test_each_trip(self):
        load = Load(10, [(6, 0, 0), (3, 0, 0), (10, 0, 0), (11, 0, 0), (9, 0, 0), (2, 0, 0)])
        found = held(load, [0, 0, 1, 2, 6, 6], *[("remaining_capacity", trip) for trip in range(7)])
        self.assertEqual(found, [[1], [0], [0], [10], [10], [10], [0]])

    def test_next_to_full(self):
        for capacity, expected in ((11, 0), (12, 0), (13, 1), (14, 2)):
            self.assertEqual(Load(capacity, [(6, 0, 0), (6, 0, 0)]).ask(("remaining_capacity", 0)), [[expected]])

    def test_no_items(self):
        for capacity in (1, 2, 59, 60):
            found = Load(capacity).ask(("remaining_capacity", 0), ("remaining_capacity", 6))
            self.assertEqual(found, [[capacity], [capacity]])

    def test_far_too_heavy(self):
        self.assertEqual(Load(1, [(30, 0, 0)] * 7).ask(("remaining_capacity", 0)), [[0]])

    def test_conflicts_do_not_matter(self):
        self.assertEqual(Load(60, [(1, 0, 0), (2, 0, 0)], [(0, 0)]).ask(("remaining_capacity", 0)), [[57]])

    def test_it_follows_what_changes(self):
        load = Load(10, [(6, 0, 0), (3, 0, 0)])
        found = load.ask(
            ("set_capacity", 60),
            ("remaining_capacity", 0),
            ("remove_item", 0),
            ("remaining_capacity", 0),
            ("assign_item", 0, 1),
            ("remaining_capacity", 0),
            ("remaining_capacity", 1),
        )
        self.assertEqual(found[1::2], [[51], [57], [60]])
        self.assertEqual(found[6], [57])

    def test_trips_that_do_not_exist(self):
        for trip in (7, 8, GREATEST):
            self.assertEqual(Load(9, [(1, 0, 0)]).ask(("remaining_capacity", trip)), [[-2]])
            self.assertEqual(ask_last(("create", 9), ("remaining_capacity", trip)), [-2])


class ItemsRemovedBehindAssigning(unittest.TestCase):
    def test_every_answer_about_the_plan_follows(self):
        load = Load(10, [(9, 0, 0), (8, 1, 1), (2, 2, 2), (5, 3, 0)], distances=[10, 20, 30])
        calls = [("get_plan",), ("is_plan_valid",), ("plan_length",), ("trip_info", 4), ("loading_order", 4)]
        calls += [("remaining_capacity", 4)]
        before = held(load, [4, 2, 4, 2], *calls)
        self.assertEqual(before, [[4, 4, 2, 4, 2], [0], [100, 2], [2, 11, 60, 0], [2, 2, 0], [0]])
        behind = held(load, [4, 2, 4, 2], ("remove_item", 0), *calls)[1:]
        self.assertEqual(behind, [[3, 2, 4, 2], [0], [100, 2], [1, 2, 60, 1], [1, 1], [8]])
        both = held(load, [4, 2, 4, 2], ("remove_item", 0), ("remove_item", 0), *calls)[2:]
        self.assertEqual(both, [[2, 4, 2], [1], [80, 2], [1, 2, 60, 1], [1, 0], [8]])

    def test_a_call_before_create_leaves_nothing(self):
        found = ask(("assign_item", 0, 3), ("create", 9), ("add_item", 1, 0, 0), ("get_plan",))
        self.assertEqual(found, [[-11], [0], [0], [1, 0]])
