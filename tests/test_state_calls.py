"""The calls 0 to 6, which build the instance, and what the instance holds."""

import unittest

from support import GREATEST, ask, ask_last


class Create(unittest.TestCase):
    def test_least_and_greatest_capacity(self):
        for capacity in (1, 2, 59, 60):
            self.assertEqual(ask(("create", capacity), ("set_capacity", 30)), [[0], [capacity]])

    def test_a_new_instance_is_empty(self):
        pairs = [(a, b) for a in range(4) for b in range(4)]
        found = ask(
            ("create", 10),
            ("list_items",),
            *[("set_distance", stop, 0) for stop in range(6)],
            *[("set_incompatible", a, b, 0) for a, b in pairs],
        )
        self.assertEqual(found, [[0]] * 24)

    def test_create_again_replaces_everything(self):
        found = ask(
            ("create", 10),
            ("add_item", 6, 1, 2),
            ("set_distance", 2, 40),
            ("set_incompatible", 1, 1, 1),
            ("create", 20),
            ("list_items",),
            ("set_distance", 2, 0),
            ("set_incompatible", 1, 1, 0),
            ("set_capacity", 5),
            ("add_item", 3, 0, 0),
        )
        self.assertEqual(found[4:], [[0], [0], [0], [0], [20], [0]])


class SetCapacity(unittest.TestCase):
    def test_answers_the_previous_one(self):
        found = ask(("create", 7), ("set_capacity", 1), ("set_capacity", 60), ("set_capacity", 59), ("set_capacity", 2))
        self.assertEqual(found[1:], [[7], [1], [60], [59]])

    def test_items_are_unchanged(self):
        setup = [("create", 30), ("add_item", 30, 1, 2), ("add_item", 4, 3, 5)]
        self.assertEqual(ask_last(*setup, ("set_capacity", 1), ("list_items",)), [2, 30, 1, 2, 4, 3, 5])

    def test_later_calls_see_the_new_capacity(self):
        setup = [("create", 10), ("add_item", 5, 0, 0), ("add_item", 6, 0, 0)]
        found = ask(*setup, ("min_trips",), ("set_capacity", 11), ("min_trips",), ("set_capacity", 5), ("min_trips",))
        self.assertEqual(found[3:], [[2], [10], [1], [11], [-33]])


class AddItem(unittest.TestCase):
    def test_numbers_count_up_to_seven_items(self):
        calls = [("add_item", 1 + item, item % 4, item % 6) for item in range(7)]
        self.assertEqual(ask(("create", 60), *calls)[1:], [[0], [1], [2], [3], [4], [5], [6]])

    def test_least_and_greatest_values(self):
        for weight in (1, 2, 29, 30):
            for category in (0, 1, 2, 3):
                for stop in (0, 1, 4, 5):
                    found = ask(("create", 60), ("add_item", weight, category, stop), ("list_items",))
                    self.assertEqual(found[1:], [[0], [1, weight, category, stop]])

    def test_heavier_than_the_capacity(self):
        self.assertEqual(ask(("create", 1), ("add_item", 30, 0, 0), ("list_items",))[1:], [[0], [1, 30, 0, 0]])

    def test_equal_items_are_two_items(self):
        found = ask(("create", 9), ("add_item", 3, 1, 2), ("add_item", 3, 1, 2), ("list_items",))
        self.assertEqual(found[1:], [[0], [1], [2, 3, 1, 2, 3, 1, 2]])


class RemoveItem(unittest.TestCase):
    SETUP = [("create", 60), ("add_item", 1, 0, 0), ("add_item", 2, 1, 1), ("add_item", 3, 2, 2), ("add_item", 4, 3, 3)]

    def test_later_items_are_renumbered(self):
        found = ask(*self.SETUP, ("remove_item", 1), ("list_items",), ("remove_item", 1), ("list_items",))
        self.assertEqual(found[5:], [[3], [3, 1, 0, 0, 3, 2, 2, 4, 3, 3], [2], [2, 1, 0, 0, 4, 3, 3]])

    def test_the_first_and_the_last(self):
        found = ask(*self.SETUP, ("remove_item", 0), ("remove_item", 2), ("list_items",))
        self.assertEqual(found[5:], [[3], [2], [2, 2, 1, 1, 3, 2, 2]])

    def test_until_none_is_left(self):
        found = ask(*self.SETUP, *[("remove_item", 0)] * 4, ("list_items",), ("remove_item", 0))
        self.assertEqual(found[5:], [[3], [2], [1], [0], [0], [-2]])

    def test_the_seventh_place_is_free_again(self):
        seven = [("add_item", 1, 0, 0)] * 7
        found = ask(("create", 60), *seven, ("remove_item", 6), ("add_item", 9, 0, 0), ("add_item", 9, 0, 0))
        self.assertEqual(found[8:], [[6], [6], [-28]])

    def test_other_calls_use_the_new_numbers(self):
        setup = [("create", 10), ("add_item", 1, 0, 0), ("add_item", 9, 0, 0), ("add_item", 8, 0, 0)]
        found = ask(*setup, ("in_conflict", 0, 1), ("remove_item", 0), ("in_conflict", 0, 1), ("in_conflict", 1, 2))
        self.assertEqual(found[4:], [[0], [2], [1], [-2]])


class ListItems(unittest.TestCase):
    def test_none(self):
        self.assertEqual(ask_last(("create", 1), ("list_items",)), [0])

    def test_in_the_order_of_their_numbers(self):
        calls = [("add_item", 30 - item, item % 4, 5 - item % 6) for item in range(7)]
        expected = [7]
        for call in calls:
            expected.extend(call[1:])
        self.assertEqual(ask_last(("create", 1), *calls, ("list_items",)), expected)


class SetIncompatible(unittest.TestCase):
    def test_the_order_does_not_matter(self):
        calls = [("set_incompatible", 1, 3, 1), ("set_incompatible", 3, 1, 1), ("set_incompatible", 3, 1, 0)]
        found = ask(("create", 9), *calls, ("set_incompatible", 1, 3, 0))
        self.assertEqual(found[1:], [[0], [1], [1], [0]])

    def test_each_pair_is_kept_apart_from_the_others(self):
        pairs = [(a, b) for a in range(4) for b in range(a, 4)]
        for chosen in pairs:
            probes = [("set_incompatible", a, b, 0) for a, b in pairs]
            found = ask(("create", 9), ("set_incompatible", *chosen, 1), *probes)
            self.assertEqual(found[2:], [[1] if pair == chosen else [0] for pair in pairs])

    def test_a_category_with_itself(self):
        calls = [("set_incompatible", 2, 2, 1), ("set_incompatible", 2, 2, 0), ("set_incompatible", 2, 2, 0)]
        self.assertEqual(ask(("create", 9), *calls)[1:], [[0], [1], [0]])

    def test_items_added_later_are_under_it_too(self):
        setup = [("create", 9), ("set_incompatible", 0, 1, 1), ("add_item", 1, 0, 0), ("add_item", 1, 1, 0)]
        found = ask(*setup, ("in_conflict", 0, 1), ("set_incompatible", 1, 0, 0), ("in_conflict", 0, 1))
        self.assertEqual(found[4:], [[1], [1], [0]])


class SetDistance(unittest.TestCase):
    def test_answers_the_previous_one(self):
        distances = (50, 49, 0, 1)
        found = ask(("create", 9), *[("set_distance", 5, distance) for distance in distances], ("set_distance", 5, 7))
        self.assertEqual(found[1:], [[0], [50], [49], [0], [1]])

    def test_each_stop_has_its_own(self):
        setting = [("set_distance", stop, 10 + stop) for stop in range(6)]
        asking = [("set_distance", stop, 0) for stop in range(6)]
        self.assertEqual(ask(("create", 9), *setting, *asking)[7:], [[10], [11], [12], [13], [14], [15]])

    def test_trips_are_as_long_as_the_last_distance_set(self):
        setup = [("create", 9), ("add_item", 1, 0, 4), ("set_distance", 4, 3), ("set_distance", 4, 50)]
        self.assertEqual(ask_last(*setup, ("shortest_plan", 1)), [100, 0])


class WrongNumbers(unittest.TestCase):
    def test_capacity_outside_its_range(self):
        for capacity in (0, 61, 62, GREATEST):
            self.assertEqual(ask(("create", capacity)), [[-22]])
            self.assertEqual(ask(("create", 9), ("set_capacity", capacity), ("set_capacity", 1))[1:], [[-22], [9]])

    def test_item_outside_its_ranges(self):
        bad = [(weight, 0, 0) for weight in (0, 31, 32, GREATEST)]
        bad += [(1, category, 0) for category in (4, 5, GREATEST)]
        bad += [(1, 0, stop) for stop in (6, 7, GREATEST)]
        bad += [(GREATEST, GREATEST, GREATEST)]
        for numbers in bad:
            self.assertEqual(ask(("create", 60), ("add_item", *numbers), ("list_items",))[1:], [[-22], [0]])

    def test_an_eighth_item(self):
        found = ask(("create", 60), *[("add_item", 30, 3, 5)] * 8, ("list_items",))
        self.assertEqual(found[7:], [[6], [-28], [7] + [30, 3, 5] * 7])

    def test_an_eighth_item_that_is_outside_its_ranges_too(self):
        for numbers in ((0, 0, 0), (31, 0, 0), (1, 4, 0), (1, 0, 6)):
            self.assertEqual(ask_last(("create", 60), *[("add_item", 1, 0, 0)] * 7, ("add_item", *numbers)), [-22])

    def test_removing_an_item_that_is_not_there(self):
        for item in (0, 1, 6, 7, GREATEST):
            self.assertEqual(ask(("create", 9), ("remove_item", item), ("list_items",))[1:], [[-2], [0]])
        setup = [("create", 9), ("add_item", 1, 2, 3), ("add_item", 2, 3, 4)]
        for item in (2, 3, 7, GREATEST):
            found = ask(*setup, ("remove_item", item), ("list_items",))
            self.assertEqual(found[3:], [[-2], [2, 1, 2, 3, 2, 3, 4]])

    def test_incompatible_outside_its_ranges(self):
        bad = [(4, 0, 1), (GREATEST, 0, 1), (0, 4, 1), (0, GREATEST, 1), (4, 4, 1)]
        bad += [(0, 0, 2), (0, 0, 3), (0, 0, GREATEST), (GREATEST, GREATEST, GREATEST)]
        for numbers in bad:
            found = ask(("create", 9), ("set_incompatible", *numbers), ("set_incompatible", 0, 0, 0))
            self.assertEqual(found[1:], [[-22], [0]])

    def test_distance_outside_its_ranges(self):
        bad = [(6, 0), (7, 50), (GREATEST, 0), (0, 51), (0, 52), (0, GREATEST), (GREATEST, GREATEST)]
        for numbers in bad:
            found = ask(("create", 9), ("set_distance", 0, 3), ("set_distance", *numbers), ("set_distance", 0, 0))
            self.assertEqual(found[2:], [[-22], [3]])
